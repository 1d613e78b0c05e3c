"""What a row of deeds leads to, deed by deed."""

from linklines.checks import is_list, is_word
from linklines.errors import BadDeed
from linklines.stayers import kept_in


def is_deed(world, thing):
    if not is_list(thing) or len(thing) < 2 or not world.is_library(thing[1]):
        return False
    if thing[0] == "open":
        return len(thing) == 4 and thing[2] in ("now", "lazy") and thing[3] in ("all", "own")
    if thing[0] == "close":
        return len(thing) == 2
    if thing[0] == "call":
        return len(thing) == 3 and world.is_slot(thing[1], thing[2])
    return thing[0] == "find" and len(thing) == 3 and is_word(thing[2])


def first_bad_deed(world, row):
    """The index of the first thing that is no deed, 0 for no list, None if there is none."""
    if not is_list(row):
        return 0
    for index, thing in enumerate(row):
        if not is_deed(world, thing):
            return index
    return None


def checked_deeds(world, row):
    """The deeds of a row as tuples; BadDeed."""
    bad = first_bad_deed(world, row)
    if bad is not None:
        raise BadDeed(bad)
    return [tuple(deed) for deed in row]


def openings_of(library):
    return [("open", library, when, where) for when in ("lazy", "now") for where in ("all", "own")]


def first_scene(world):
    """What is so ahead of any deed."""
    scene = Scene(world, {}, list(world.start_list()), {}, {})
    scene.bring_in(world.start_list())
    return scene


class Scene:
    """Who is there, with homes; who is searched; what is open; what slots are bound to."""

    def __init__(self, world, homes, searches, counts, ties):
        self.ground = world
        self.homes = homes
        self.searches = searches
        self.counts = counts
        self.ties = ties

    def copied(self):
        ties = {slot: self.ties[slot] for slot in self.ties}
        return Scene(self.ground, dict(self.homes), list(self.searches), dict(self.counts), ties)

    def mark(self):
        """What makes one scene another one than others of its world, as a key."""
        counts = tuple([(name, self.counts[name]) for name in sorted(self.counts)])
        ties = tuple([(slot, self.ties[slot]) for slot in sorted(self.ties)])
        return (tuple(list(self.homes.items())), tuple(self.searches), counts, ties)

    def bring_in(self, group):
        """Lets those of a group come in that are not there; tells them."""
        newcomers = [name for name in group if name not in self.homes]
        for library in newcomers:
            self.homes[library] = group
            for name in self.ground.slots_of(library):
                self.ties[(library, name)] = "free"
        return newcomers

    def done(self, deed):
        """Does a deed; tells its answer."""
        if deed[0] == "open":
            return self.opening(deed[1], deed[2], deed[3])
        if deed[0] == "call":
            return self.calling(deed[1], deed[2])
        if deed[0] == "find":
            return self.finding(deed[1], deed[2])
        leavers = self.closing(deed[1])
        if leavers is None:
            return "not open"
        self.send_away(leavers)
        return "closed"

    def opening(self, library, when, where):
        trial = self.copied()
        group = self.ground.group_told(library)
        newcomers = trial.bring_in(group)
        if where == "all":
            trial.searches.extend([name for name in group if name not in self.searches])
        if when == "now":
            for newcomer in newcomers:
                for name in self.ground.slots_of(newcomer):
                    if trial.calling(newcomer, name) == "missing":
                        return ("missing", newcomer, name)
        self.homes, self.searches, self.ties = trial.homes, trial.searches, trial.ties
        self.counts[library] = self.counts.get(library, 0) + 1
        return "opened"

    def closing(self, library):
        """Closes a library once; tells who is to leave, None if it is not open."""
        if library not in self.counts:
            return None
        self.counts[library] -= 1
        if self.counts[library] == 0:
            del self.counts[library]
        kept = kept_in(self)
        return [name for name in self.homes if name not in kept]

    def send_away(self, leavers):
        for library in leavers:
            del self.homes[library]
            for name in self.ground.slots_of(library):
                del self.ties[(library, name)]
        self.searches = [name for name in self.searches if name not in leavers]
        lost = [slot for slot, tie in self.ties.items() if is_list(tie) and tie[1] in leavers]
        for slot in lost:
            self.ties[slot] = "gone"

    def calling(self, library, name):
        if library not in self.homes:
            return "not there"
        if self.ties[(library, name)] == "free":
            answer = self.would_be(library, name)
            if answer == "missing":
                return answer
            self.ties[(library, name)] = answer
        return self.ties[(library, name)]

    def would_be(self, library, name):
        """What a call of a free slot binds it to, "missing" if to nothing."""
        if self.ground.is_own(library, name):
            return ("to", library)
        near = [other for other in self.homes[library] if other in self.homes]
        found = self.ground.first_teller([*self.searches, *near], name)
        if found is not None:
            return ("to", found)
        return "nobody" if self.ground.does_ask(library, name) else "missing"

    def finding(self, library, name):
        if library not in self.homes:
            return "not there"
        found = self.ground.first_teller(self.ground.group_told(library), name)
        return "missing" if found is None else ("to", found)

    def deeds(self):
        """The deeds, ascending, that can change this, but for those that only change how often something is open.

        To open who is there from the start, or what is open twice, brings nobody in and puts nobody on the search
        list: no first row has such a deed.
        """
        deeds = [("call", *slot) for slot, tie in self.ties.items() if tie == "free"]
        deeds.extend([("close", library) for library in self.counts])
        for library in self.ground.names():
            if library not in self.ground.start_list() and self.counts.get(library, 0) < 2:
                deeds.extend(openings_of(library))
        return sorted(deeds)

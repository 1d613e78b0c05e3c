"""What a row of deeds leads to, deed by deed."""

from linklines.checks import is_list, is_word
from linklines.errors import BadDeed
from linklines.stayers import kept_in


def is_deed(world, thing):
    if not is_list(thing) or len(thing) < 2 or not world.is_library(thing[1]):
        return False
    if thing[0] == "open":
        return len(thing) == 4 and thing[2] in ("now", "lazy") and thing[3] in ("all", "own")
    if thing[0] == "close":
        return len(thing) == 2
    if thing[0] == "call":
        return len(thing) == 3 and world.is_slot(thing[1], thing[2])
    return thing[0] == "find" and len(thing) == 3 and is_word(thing[2])


def first_bad_deed(world, row):
    """The index of the first thing that is no deed, 0 for no list, None if there is none."""
    if not is_list(row):
        return 0
    for index, thing in enumerate(row):
        if not is_deed(world, thing):
            return index
    return None


def checked_deeds(world, row):
    """The deeds of a row as tuples; BadDeed."""
    bad = first_bad_deed(world, row)
    if bad is not None:
        raise BadDeed(bad)
    return [tuple(deed) for deed in row]


def first_scene(world):
    """What is so ahead of any deed."""
    scene = Scene(world, {}, list(world.start_list()), {}, {})
    scene.bring_in(world.start_list(), {name: world.free_slots(name) for name in world.start_list()})
    return scene


class Scene:
    """Who is there, with homes; who is searched; what is open; for each one there what its slots are bound to.

    Slots are told library by library, as tuples in the order of their names, and libraries in the order in which they
    came: so scenes with the same homes have their ties in the same order.
    """

    def __init__(self, world, homes, searches, counts, ties):
        self.ground = world
        self.homes = homes
        self.searches = searches
        self.counts = counts
        self.ties = ties

    def copied(self):
        return Scene(self.ground, dict(self.homes), list(self.searches), dict(self.counts), dict(self.ties))

    def mark(self):
        """What makes one scene another one than others of its world, as a key."""
        counts = tuple(sorted(self.counts.items()))
        return (tuple(self.homes.items()), tuple(self.searches), counts, tuple(self.ties.values()))

    def bring_in(self, group, bound):
        """Lets newcomers come in, each with what its slots are bound to."""
        for library, ties in bound.items():
            self.homes[library] = group
            self.ties[library] = ties

    def all_slots(self):
        """The pairs ((library, name), tie) of all slots of those there."""
        slots = []
        for library, ties in self.ties.items():
            slots.extend([((library, name), tie) for name, tie in zip(self.ground.slots_of(library), ties)])
        return slots

    def tie_of(self, library, name):
        """What a slot is bound to, None if its library is not there."""
        return self.ties[library][self.ground.slot_place(library, name)] if library in self.ties else None

    def done(self, deed):
        """Does a deed; tells its answer."""
        if deed[0] == "open":
            return self.opening(deed[1], deed[2], deed[3])
        if deed[0] == "call":
            return self.calling(deed[1], deed[2])
        if deed[0] == "find":
            return self.finding(deed[1], deed[2])
        leavers = self.closing(deed[1])
        if leavers is None:
            return "not open"
        self.send_away(leavers)
        return "closed"

    def idle_answer(self, deed):
        """The answer of a deed that changes nothing, None if it may change something."""
        if deed[0] == "find":
            return self.finding(deed[1], deed[2])
        if deed[0] == "close":
            return None if deed[1] in self.counts else "not open"
        if deed[0] == "call":
            tie = self.tie_of(deed[1], deed[2])
            return "not there" if tie is None else None if tie == "free" else tie
        return None

    def opening(self, library, when, where):
        group = self.ground.group_told(library)
        searches = self.searches
        if where == "all":
            searches = [*searches, *[name for name in group if name not in searches]]
        bound = {}
        for newcomer in [name for name in group if name not in self.homes]:
            bound[newcomer] = self.ground.free_slots(newcomer)
            if when == "now":
                slots = self.ground.slots_of(newcomer)
                bound[newcomer] = tuple([self.found_for(newcomer, name, searches, group) for name in slots])
                if "missing" in bound[newcomer]:
                    return ("missing", newcomer, slots[bound[newcomer].index("missing")])
        self.bring_in(group, bound)
        self.searches = searches
        self.counts[library] = self.counts.get(library, 0) + 1
        return "opened"

    def closing(self, library):
        """Closes a library once; tells who is to leave, None if it is not open."""
        if library not in self.counts:
            return None
        self.counts[library] -= 1
        if self.counts[library] == 0:
            del self.counts[library]
        kept = kept_in(self)
        return [name for name in self.homes if name not in kept]

    def send_away(self, leavers):
        if not leavers:
            return
        self.homes = {library: home for library, home in self.homes.items() if library not in leavers}
        self.searches = [name for name in self.searches if name not in leavers]
        self.ties = {library: without_ties_to(leavers, self.ties[library]) for library in self.homes}

    def calling(self, library, name):
        if library not in self.homes:
            return "not there"
        at = self.ground.slot_place(library, name)
        ties = self.ties[library]
        if ties[at] != "free":
            return ties[at]
        answer = self.would_be(library, name)
        if answer != "missing":
            self.ties[library] = (*ties[:at], answer, *ties[at + 1:])
        return answer

    def would_be(self, library, name):
        """What a call of a free slot binds it to, "missing" if to nothing."""
        near = [other for other in self.homes[library] if other in self.homes]
        return self.found_for(library, name, self.searches, near)

    def found_for(self, library, name, searches, near):
        """What a slot is bound to where these are searched, then those near."""
        if self.ground.is_own(library, name):
            return ("to", library)
        teller = self.ground.first_teller(searches, name)
        if teller is None:
            teller = self.ground.first_teller(near, name)
        if teller is not None:
            return ("to", teller)
        return "nobody" if self.ground.does_ask(library, name) else "missing"

    def finding(self, library, name):
        if library not in self.homes:
            return "not there"
        teller = self.ground.first_teller(self.ground.group_told(library), name)
        return "missing" if teller is None else ("to", teller)

    def deeds(self):
        """The deeds, ascending, that can change this, but for those that only change how often something is open.

        To open who is there from the start, or what is open twice, brings nobody in and puts nobody on the search
        list: no first row has such a deed.
        """
        deeds = [("call", *slot) for slot, tie in self.all_slots() if tie == "free"]
        deeds.extend([("close", library) for library in self.counts])
        for library in self.ground.later_ones():
            if self.counts.get(library, 0) < 2:
                deeds.extend(self.ground.openings(library))
        return sorted(deeds)


def without_ties_to(leavers, ties):
    return tuple(["gone" if isinstance(tie, tuple) and tie[1] in leavers else tie for tie in ties])

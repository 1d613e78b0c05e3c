"""What fits what among steady releases: links and good states follow from it."""

from linklines.checks import is_integer_from
from linklines.errors import BadState, NotGood, Unsteady
from linklines.releases import unsteady


def ground_of(releases):
    """What fits what among releases, found once for each of them; Unsteady."""
    if unsteady(releases) is not None:
        raise Unsteady()
    if releases.ground is None:
        releases.ground = Goodness(releases)
    return releases.ground


class Goodness:
    """For each release what it wants of each other library, and the releases there that fit."""

    def __init__(self, releases):
        self.counts = releases.libraries()
        self.limits = {library: {} for library in self.counts}
        self.journey = None
        self.tellers = {}
        self.wanted = {}
        self.spans = {}
        self.barren = {}
        for library in self.counts:
            self.learn(releases, library)
        for library in self.counts:
            for number in range(1, self.counts[library] + 1):
                self.measure(library, number)
                self.limits[library][number] = self.limits_of(library, number)

    def learn(self, releases, library):
        for number in range(1, self.counts[library] + 1):
            tells, wants = releases.release(library, number)
            for name, version in tells:
                self.tellers.setdefault((library, name, version), []).append(number)
            for other, name, version in wants:
                self.wanted.setdefault((library, number, other), []).append((name, version))

    def measure(self, library, number):
        """Keeps what fits a release; for a dead one also a library of which nothing does."""
        # no release wants anything of its own library: there all of them fit
        for other in self.counts:
            first, last = self.first_pair(library, number, other), self.last_pair(library, number, other)
            if first[0] <= last[0]:
                self.spans[(library, number, other)] = (first, last)
            else:
                self.barren[(library, number)] = other

    def limits_of(self, library, number):
        """The triples (library, from, to) by which a release lets others not be any release; None for a dead one."""
        if self.is_dead(library, number):
            return None
        limits = []
        for other in self.counts:
            first, last = self.spans[(library, number, other)]
            if first[0] > 1 or last[0] < self.counts[other]:
                limits.append((other, first[0], last[0]))
        return limits

    def pairs_wanted(self, library, number, other):
        return self.wanted.get((library, number, other), [])

    def first_pair(self, library, number, other):
        """Where all that is wanted of another library is told from, and a pair told nowhere ahead of it."""
        first = (1, None)
        for pair in self.pairs_wanted(library, number, other):
            numbers = self.tellers.get((other, *pair), [])
            at = numbers[0] if numbers else self.counts[other] + 1
            if at > first[0]:
                first = (at, pair)
        return first

    def last_pair(self, library, number, other):
        """Up to where all that is wanted of another library is told, and a pair told nowhere behind it."""
        last = (self.counts[other], None)
        for pair in self.pairs_wanted(library, number, other):
            numbers = self.tellers.get((other, *pair), [])
            at = numbers[-1] if numbers else 0
            if at < last[0]:
                last = (at, pair)
        return last

    def is_dead(self, library, number):
        return (library, number) in self.barren

    def does_fit_none(self, library, number, other):
        return (library, number, other) not in self.spans

    def is_number(self, library, number):
        return is_integer_from(1, number) and number <= self.counts[library]

    def is_state(self, thing):
        if not isinstance(thing, dict) or len(thing) != len(self.counts):
            return False
        return all([library in thing and self.is_number(library, thing[library]) for library in self.counts])

    def checked_state(self, thing):
        """The state, ascending; BadState."""
        if not self.is_state(thing):
            raise BadState(thing)
        return {library: thing[library] for library in self.counts}

    def check_good(self, state, thing):
        if not self.is_good_state(state):
            raise NotGood(thing)

    def is_good_state(self, state):
        for library, number in state.items():
            limits = self.limits[library][number]
            if limits is None:
                return False
            for other, low, high in limits:
                if not low <= state[other] <= high:
                    return False
        return True

    def first_link(self, state):
        """A link that leads on from a state, perhaps behind the last release, None if the state is good."""
        for library, number in state.items():
            if self.limits[library][number] is None:
                return (library, number, library, number + 1, ("dead", self.barren[(library, number)]))
        for library, number in state.items():
            for other, low, high in self.limits[library][number]:
                if not low <= state[other] <= high:
                    return self.link_between(state, library, other)
        return None

    def link_between(self, state, library, other):
        """The link that follows from what the release of a library wants of another one, whose release does not fit."""
        number = state[library]
        first, last = self.spans[(library, number, other)]
        if state[other] < first[0]:
            return (library, number, other, first[0], ("wants", *first[1]))
        return (other, last[0] + 1, library, number + 1, ("wanted", *last[1]))

    def lifted(self, state):
        """The least good state nowhere below a state, and the links that lead there; None if there is none."""
        state = dict(state)
        links = []
        link = self.first_link(state)
        while link is not None:
            if link[3] > self.counts[link[2]]:
                return None
            links.append(link)
            state[link[2]] = link[3]
            link = self.first_link(state)
        return (state, links)

    def lowered(self, state):
        """The greatest good state nowhere above a state, None if there is none."""
        state = dict(state)
        link = self.first_link(state)
        while link is not None:
            # read backwards: who has the other one ahead of where a link leads must be ahead of where it begins
            library, number = link[0], link[1]
            if number == 1:
                return None
            state[library] = number - 1
            link = self.first_link(state)
        return state

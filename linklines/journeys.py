"""From one good state to another one above it: the bundles of changes, and which stand ahead of which."""

from linklines.errors import NotAbove
from linklines.goodness import ground_of


def journey_of(releases, state, goal):
    """The journey from a state to a goal; the last one is kept. BadState, NotGood, NotAbove."""
    ground = ground_of(releases)
    origin = ground.checked_state(state)
    target = ground.checked_state(goal)
    ground.check_good(origin, state)
    ground.check_good(target, goal)
    for library in origin:
        if target[library] < origin[library]:
            raise NotAbove(library)
    journey = ground.journey
    if journey is None or journey.origin != origin or journey.target != target:
        journey = Journey(ground, origin, target)
        ground.journey = journey
    return journey


class Journey:
    """The bundles from a good state to one above it, in the first order that can be."""

    def __init__(self, ground, origin, target):
        self.ground = ground
        self.origin = origin
        self.target = target
        self.halts = [origin]
        self.packs = []
        self.known_pairs = None
        while self.halts[-1] != self.target:
            self.add_bundle()

    def add_bundle(self):
        """Goes on to that next good state for which the fewest, then the first libraries change."""
        state = self.halts[-1]
        chosen = ()
        for library in state:
            if state[library] < self.target[library]:
                reached = self.ground.lifted({**state, library: state[library] + 1})[0]
                changed = [other for other in state if reached[other] != state[other]]
                if chosen == () or (len(changed), changed) < chosen[:2]:
                    chosen = (len(changed), changed, reached)
        self.packs.append({other: (state[other], chosen[2][other]) for other in chosen[1]})
        self.halts.append(chosen[2])

    def fewest_behind(self, number):
        """The numbers of the bundles that must be done before and with this one, as a list of truths."""
        done = {library: change[1] for library, change in self.packs[number].items()}
        reached = self.ground.lifted({**self.origin, **done})[0]
        return [all([reached[library] >= change[1] for library, change in pack.items()]) for pack in self.packs]

    def pairs_ahead(self):
        if self.known_pairs is None:
            self.known_pairs = self.found_pairs()
        return list(self.known_pairs)

    def found_pairs(self):
        pairs = []
        for number in range(len(self.packs)):
            marks = self.fewest_behind(number)
            pairs.extend([(other, number) for other, mark in enumerate(marks) if mark and other != number])
        return sorted(pairs)

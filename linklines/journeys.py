"""From one good state to another one above it: the bundles of changes, and which stand ahead of which."""

from linklines.errors import NotAbove
from linklines.goodness import Goodness


class Journey:
    """The bundles from a state to a goal, in the first order that can be; BadState, NotGood, NotAbove."""

    def __init__(self, releases, state, goal):
        self.ground = Goodness(releases)
        self.origin = self.ground.checked_state(state)
        self.target = self.ground.checked_state(goal)
        self.ground.check_good(self.origin, state)
        self.ground.check_good(self.target, goal)
        self.check_above()
        self.halts = [self.origin]
        self.packs = []
        while self.halts[-1] != self.target:
            self.add_bundle()

    def check_above(self):
        for library in self.origin:
            if self.target[library] < self.origin[library]:
                raise NotAbove(library)

    def add_bundle(self):
        """Goes on to that next good state for which the fewest, then the first libraries change."""
        state = self.halts[-1]
        chosen = ()
        for library in state:
            if state[library] < self.target[library]:
                reached = self.ground.lifted({**state, library: state[library] + 1})[0]
                changed = [other for other in state if reached[other] != state[other]]
                if chosen == () or (len(changed), changed) < chosen[:2]:
                    chosen = (len(changed), changed, reached)
        self.packs.append({other: (state[other], chosen[2][other]) for other in chosen[1]})
        self.halts.append(chosen[2])

    def fewest_behind(self, number):
        """The numbers of the bundles that must be done before and with this one, as a list of truths."""
        done = {library: change[1] for library, change in self.packs[number].items()}
        reached = self.ground.lifted({**self.origin, **done})[0]
        return [all([reached[library] >= change[1] for library, change in pack.items()]) for pack in self.packs]

    def pairs_ahead(self):
        pairs = []
        for number in range(len(self.packs)):
            marks = self.fewest_behind(number)
            pairs.extend([(other, number) for other, mark in enumerate(marks) if mark and other != number])
        return sorted(pairs)

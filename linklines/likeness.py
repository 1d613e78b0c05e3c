"""Two scripts of rules of one pool: whether they lay all lines the same, and the first line that they do not."""

from linklines.namepairs import least_pair

AHEAD = 0
BEHIND = 1
BY_NAMES = 2


class Laying:
    """The rules of a script, as numbers in a pool, in the order of the script."""

    def __init__(self, pool, order):
        self.pool = pool
        self.order = list(order)
        self.rank_of = {number: at for at, number in enumerate(self.order)}
        self.out_place = {}
        for at, number in enumerate(self.order):
            self.out_place.setdefault(pool.out(number), at)

    def taker(self, lot):
        """The number of the rule that takes what a lot matches, None if none does."""
        for number in self.order:
            if lot & (1 << number):
                return number
        return None

    def out_of(self, taker):
        return None if taker is None else self.pool.out(taker)

    def stands_to(self, one, other):
        """How an input that one rule takes is laid to one behind it in the line that the other rule takes."""
        if self.out_of(one) != self.out_of(other):
            return AHEAD if self.out_place[self.out_of(one)] < self.out_place[self.out_of(other)] else BEHIND
        if one == other and self.pool.is_by_name(one):
            return BY_NAMES
        return AHEAD if self.rank_of[one] <= self.rank_of[other] else BEHIND


class Likeness:
    """Two layings side by side; inputs are told by the pairs of their takers."""

    def __init__(self, pool, one, other):
        self.pool = pool
        self.layings = (Laying(pool, one), Laying(pool, other))
        self.known_takers = {}

    def takers(self, lot):
        if lot not in self.known_takers:
            self.known_takers[lot] = (self.layings[0].taker(lot), self.layings[1].taker(lot))
        return self.known_takers[lot]

    def are_elsewhere(self, takers):
        return self.layings[0].out_of(takers[0]) != self.layings[1].out_of(takers[1])

    def parted_at(self, one, other):
        """At which names two inputs, one behind the other, are laid otherwise: "all", "falling", "others", "none"."""
        if None in one or None in other:
            return "none"
        hows = (self.layings[0].stands_to(one[0], other[0]), self.layings[1].stands_to(one[1], other[1]))
        if hows[0] == hows[1]:
            return "none"
        if BY_NAMES not in hows:
            return "all"
        return "falling" if AHEAD in hows else "others"

    def are_alike(self, spans):
        """Whether all lines are laid the same; spans are those of the pool."""
        found = {}
        for lot, (low, high) in spans.items():
            takers = self.takers(lot)
            if self.are_elsewhere(takers):
                return False
            known = found.get(takers, (low, high))
            found[takers] = (min(low, known[0]), max(high, known[1]))
        for one, span in found.items():
            for other, further in found.items():
                where = self.parted_at(one, other)
                if where == "all" or (where == "falling" and span[1] > further[0]):
                    return False
                if where == "others" and span[0] <= further[1]:
                    return False
        return True

    def first_inputs(self, firsts):
        """The first input of each pair of takers; firsts are those of the pool."""
        found = {}
        for lot, first in firsts.items():
            takers = self.takers(lot)
            if takers not in found or first < found[takers]:
                found[takers] = first
        return found

    def first_elsewhere(self):
        """The first input with another out, None if there is none."""
        best = None
        for file_lot, file in self.pool.file_firsts.items():
            for name_lot, name in self.pool.name_firsts.items():
                found = (len(file) + len(name), file, name)
                # names come by their lengths: all further ones have more signs
                if best is not None and found[0] > best[0]:
                    break
                if (best is None or found < best) and self.are_elsewhere(self.takers(file_lot & name_lot)):
                    best = found
        return None if best is None else best[1:]

    def first_line(self):
        """The first line that is laid otherwise, None if there is none."""
        alone = self.first_elsewhere()
        return self.first_two(self.first_inputs(self.pool.first_shared())) if alone is None else [alone]

    def first_two(self, firsts):
        """The first line of two inputs that is laid otherwise where no single one is, None if there is none."""
        best = None
        named = []
        for one, first in firsts.items():
            for other, further in firsts.items():
                where = self.parted_at(one, other)
                bound = (first[0] + further[0], *first[1:], *further[1:])
                if where == "all" and (best is None or bound < best):
                    best = bound
                if where in ("falling", "others"):
                    named.append((bound[0], one, other, where))
        files = self.all_files() if named else {}
        for bound, one, other, where in sorted(named):
            if best is None or bound <= best[0]:
                found = least_pair(files[one], files[other], self.pool.name_walk, where == "falling")
                if found is not None and (best is None or found < best):
                    best = found
        return None if best is None else [best[1:3], best[3:]]

    def all_files(self):
        """For each pair of takers the dict from lots of name patterns to the first file with which it is so."""
        found = {}
        for file_lot, file in self.pool.file_firsts.items():
            for name_lot in self.pool.name_firsts:
                found.setdefault(self.takers(file_lot & name_lot), {}).setdefault(name_lot, file)
        return found

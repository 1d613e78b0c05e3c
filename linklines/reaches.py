"""How far parts stand from one another at all sizes, and what stays where it is."""

from linklines.checks import is_integer
from linklines.errors import BadFar, NotBehind
from linklines.grids import greatest_of, least_of, one_less, rows_between
from linklines.windows import least_ahead


class Stretch:
    """Two parts of a plan, one behind the other, and the sizes that all parts can have; NoPart, NotBehind."""

    def __init__(self, plan, one, other):
        self.plan = plan
        self.first = plan.part_number(one)
        self.last = plan.part_number(other)
        if self.last <= self.first:
            raise NotBehind(one, other)
        self.leasts = [part[3] for part in plan.parts()]
        self.mosts = [part[4] for part in plan.parts()]

    def rests(self, mosts):
        """For each rest by the page that the first part's address can have the first sizes, by sum, ahead of it."""
        page = self.plan.page()
        ways = {0: (0, [])}
        for number in range(self.first):
            further = {}
            for end, (total, sizes) in ways.items():
                address = self.plan.place(number, end)
                for size in range(self.leasts[number], mosts[number] + 1):
                    way = (total + size, [*sizes, size])
                    rest = (address + size) % page
                    if rest not in further or way < further[rest]:
                        further[rest] = way
            ways = further
        found = {}
        for end, way in ways.items():
            rest = self.plan.place(self.first, end) % page
            if rest not in found or way < found[rest]:
                found[rest] = way
        return found

    def reach(self, rest, sizes):
        """The reach at these sizes if the first part's address leaves this rest by the page."""
        end = rest + sizes[self.first]
        for number in range(self.first + 1, self.last):
            end = self.plan.place(number, end) + sizes[number]
        return self.plan.place(self.last, end) - rest

    def greatest(self, bounds):
        """The greatest reach at sizes nowhere above these."""
        return max([self.reach(rest, bounds) for rest in self.rests(bounds)])

    def least(self):
        return min([self.reach(rest, self.leasts) for rest in self.rests(self.mosts)])

    def first_beyond(self, far):
        """The first sizes, by their sum, with a reach above far, None if there are none."""
        best = ()
        for rest, (total, sizes) in self.rests(self.mosts).items():
            if self.reach(rest, self.mosts) > far:
                further = self.first_between(rest, far)
                way = (total + sum(further), [*sizes, *further, *self.leasts[self.last:]])
                if best == () or way < best:
                    best = way
        return best[1] if best else None

    def first_between(self, rest, far):
        """The first sizes, by their sum, from the first part on to the other one with a reach above far from a rest."""
        limit = self.reach(rest, self.mosts) + rest + self.plan.page()
        # for each end ahead of a part the least sum from it on, None where no sizes are enough
        sums = [0 if self.plan.place(self.last, end) - rest > far else None for end in range(limit + 1)]
        tables = [sums]
        for number in range(self.last - 1, self.first - 1, -1):
            ways = least_ahead(tables[-1], self.leasts[number], self.mosts[number])
            tables.append([self.cost_behind(ways, number, end) for end in range(limit + 1)])
        tables.reverse()
        sizes = []
        address = rest
        for number in range(self.first, self.last):
            if number > self.first:
                address = self.plan.place(number, address)
            size = self.first_size(tables[number - self.first + 1], number, address)
            sizes.append(size)
            address += size
        return sizes

    def cost_behind(self, ways, number, end):
        """What is told of the address of a part, told of the end ahead of it; the first part stands as it is."""
        address = end if number == self.first else self.plan.place(number, end)
        return ways[address] if address < len(ways) else None

    def first_size(self, sums, number, address):
        """The least size that leads to the least sum."""
        best = ()
        for size in range(self.leasts[number], self.mosts[number] + 1):
            further = sums[address + size]
            if further is not None and (best == () or (size + further, size) < best):
                best = (size + further, size)
        return best[1]


def reaches(plan, one, other):
    stretch = Stretch(plan, one, other)
    return (stretch.least(), stretch.greatest(stretch.mosts))


def checked_stretch(plan, one, other, far):
    stretch = Stretch(plan, one, other)
    if not is_integer(far):
        raise BadFar(far)
    return stretch


def far_sizes(plan, one, other, far):
    return checked_stretch(plan, one, other, far).first_beyond(far)


def bounds_hold(plan, bounds, one, other, far):
    plan.check_sizes(bounds)
    return checked_stretch(plan, one, other, far).greatest(bounds) <= far


def all_sizes(plan):
    """All sizes, ascending, as lists compare."""
    return rows_between([part[3] for part in plan.parts()], [part[4] for part in plan.parts()])


def greatest_bounds(plan, one, other, far):
    stretch = checked_stretch(plan, one, other, far)
    holding = {}
    for sizes in all_sizes(plan):
        # what is nowhere above bounds that hold holds, so what lies one below is asked first
        lower = [holding[near] for near in one_less(sizes) if near in holding]
        holding[sizes] = all(lower) and stretch.greatest(sizes) <= far
    return greatest_of(holding)


def steady(plan):
    leasts = plan.earliest_places([part[3] for part in plan.parts()])
    mosts = plan.earliest_places([part[4] for part in plan.parts()])
    return sorted([part[0] for part, low, high in zip(plan.parts(), leasts, mosts) if low == high])


def least_moves(plan, word):
    number = plan.part_number(word)
    leasts = [part[3] for part in plan.parts()]
    origin = plan.earliest_places(leasts)[number]
    return least_of({sizes: plan.earliest_places(sizes)[number] != origin for sizes in all_sizes(plan)})

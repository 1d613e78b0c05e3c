"""Plans at random, and layouts read plainly after the document."""

from linklines.plans import Plan


def example_77():
    return Plan(8, [("a", "rx", 1, 0, 9, False), ("b", "rx", 4, 3, 3, False), ("c", "rw", 1, 5, 5, False)])


def random_plan(dice, many=3, most=6, page=8, fixed=None):
    """A plan; where fixed is told only so many parts have sizes to choose from."""
    parts = []
    free = dice.sample(range(many), min(many, many if fixed is None else fixed))
    for at in range(many):
        rights = parts[-1][1] if parts and dice.random() < 0.6 else dice.choice(["r", "rw", "rx"])
        zeros = dice.random() < 0.3 or (len(parts) > 0 and parts[-1][5] and parts[-1][1] == rights)
        least = dice.randint(0, most)
        greatest = dice.randint(least, most + 2) if at in free else least
        parts.append(("abcdefgh"[at], rights, dice.choice([1, 1, 2, 4, 8]), least, greatest, zeros))
    return Plan(page, parts)


def random_sizes(dice, plan):
    return [dice.randint(part[3], part[4]) for part in plan.parts()]


def plain_is_layout(plan, sizes, layout):
    """Whether pairs are a layout of the first parts."""
    page, parts = plan.page(), plan.parts()
    for at, (address, offset) in enumerate(layout):
        word, rights, align, least, most, zeros = parts[at]
        if type(address) is not int or address < 0 or address % align:
            return False
        if at > 0:
            end = layout[at - 1][0] + sizes[at - 1]
            if address < end:
                return False
            if parts[at - 1][1] != rights and any(address < multiple for multiple in range(0, end + page, page)
                                                  if multiple >= end and multiple - page < end):
                return False
        if zeros != (offset is None):
            return False
        if not zeros:
            ahead = [other + size for (_, other), size in zip(layout[:at], sizes) if other is not None]
            if type(offset) is not int or offset < (ahead[-1] if ahead else 0) or offset % page != address % page:
                return False
    return True


def plain_ends(plan, sizes, layout):
    """How long the file is, and how many pages the memory has."""
    ends = [offset + size for (_, offset), size in zip(layout, sizes) if offset is not None]
    end = layout[-1][0] + sizes[-1]
    return (ends[-1] if ends else 0, -(-end // plan.page()))

"""All rows of numbers between a least and a greatest one, and which of those that are marked are least or greatest."""


def rows_between(leasts, mosts):
    """All rows nowhere below the one and nowhere above the other, ascending."""
    rows = [()]
    for low, high in zip(leasts, mosts):
        rows = [(*row, number) for row in rows for number in range(low, high + 1)]
    return rows


def one_less(row):
    return [(*row[:at], number - 1, *row[at + 1:]) for at, number in enumerate(row)]


def one_more(row):
    return [(*row[:at], number + 1, *row[at + 1:]) for at, number in enumerate(row)]


def least_of(marks):
    """The marked rows none of which is nowhere below another one; what is above a marked row is marked, too."""
    return [row for row, mark in marks.items() if mark and not any([marks.get(near, False) for near in one_less(row)])]


def greatest_of(marks):
    """The marked rows none of which is nowhere above another one; what is below a marked row is marked, too."""
    return [row for row, mark in marks.items() if mark and not any([marks.get(near, False) for near in one_more(row)])]

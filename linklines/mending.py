"""The fewest changes by which a line links."""

from linklines.reading import read_line, shelf_of


def does_link(shelf, line):
    return read_line(shelf, line).outcome()[0] == "links"


def rows_of_changes(line, names, many):
    """All rows of so many changes, two at most, in the order of choices."""
    drops = [("drop", index) for index in range(len(line))]
    puts = [("put", name) for name in names]
    if many == 0:
        return [()]
    if many == 1:
        return [(change,) for change in [*drops, *puts]]
    pairs = [(one, other) for at, one in enumerate(drops) for other in [*drops[at + 1:], *puts]]
    return [*pairs, *[(one, other) for one in puts for other in puts]]


def changed(line, row):
    dropped = [change[1] for change in row if change[0] == "drop"]
    left = [name for index, name in enumerate(line) if index not in dropped]
    return [*left, *[change[1] for change in row if change[0] == "put"]]


def all_mends(store, line):
    shelf = shelf_of(store)
    for many in (0, 1, 2):
        rows = rows_of_changes(line, store.files(), many)
        found = [row for row in rows if does_link(shelf, changed(line, row))]
        if found:
            return found
    return []

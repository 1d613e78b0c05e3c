"""Stands: what is behind a line, and all that there are."""

from linklines.checks import is_integer_from
from linklines.errors import BadNumber, NoFile
from linklines.reading import check_line, read_line, shelf_of
from linklines.tables import Table


def stand(store, line):
    check_line(store, line)
    return read_line(shelf_of(store), line).stand()


def outcome(store, line):
    check_line(store, line)
    return read_line(shelf_of(store), line).outcome()


def stands(store):
    table = Table(store)
    return list(zip(table.first_lines, table.all_stands))


def stand_behind(store, number, name):
    table = Table(store)
    if not is_integer_from(0, number) or number >= len(table.all_stands):
        raise BadNumber(number)
    if not store.has_file(name):
        raise NoFile(name)
    return table.all_ways[number][name]


def outcomes(store):
    table = Table(store)
    first = {}
    for line, end in zip(table.first_lines, table.all_outcomes):
        first.setdefault(end, line)
    return [(line, end) for end, line in first.items()]


def least_line(store, ahead):
    check_line(store, ahead)
    table = Table(store)
    queue = [table.behind(0, ahead)]
    lines = {queue[0]: list(ahead)}
    at = 0
    while at < len(queue):
        here = queue[at]
        if table.all_outcomes[here][0] == "links":
            return lines[here]
        for name in table.file_names:
            after = table.all_ways[here][name]
            if after not in lines:
                lines[after] = [*lines[here], name]
                queue.append(after)
        at += 1
    return None

"""Files as rows of bytes, there and back, and what can come in them."""

from linklines.checks import is_integer_from, is_list
from linklines.errors import BadByte, BadBytes
from linklines.rowreading import Reader
from linklines.rowwriting import written


def file_row(thing):
    return written(thing)


def check_bytes(thing):
    if not is_list(thing) or not all([is_integer_from(0, byte) and byte < 256 for byte in thing]):
        raise BadBytes(thing)


def read_row(row):
    check_bytes(row)
    reader = Reader(row)
    if reader.lacking is not None:
        raise BadByte(len(row))
    return reader.thing


def next_bytes(row):
    check_bytes(row)
    reader = Reader(row)
    return [] if reader.lacking is None else reader.lacking


def shortest_end(row):
    check_bytes(row)
    return Reader(row).row


def unseen_swap(row):
    read_row(row)
    many = len(row) - 2
    for place in range(many):
        byte = row[place]
        for other in range(place + 1, many):
            # the first sum never sees an exchange; the second one sees distance times difference
            if row[other] != byte and (other - place) * (row[other] - byte) % 256 == 0:
                return (place, other)
    return None

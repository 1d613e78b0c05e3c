"""What comes out of a row of archives for a main."""

from linklines.checks import first_bad_word
from linklines.clearrows import archives_of, check_row, unclear_name
from linklines.errors import BadHas, BadWants
from linklines.objects import Object
from linklines.reading import Card, Reading, shelf_of

# No file has an empty name, so this is nobody of the store.
MAIN = ("", None)


def check_main(wants, has):
    bad = first_bad_word(wants, ())
    if bad is not None:
        raise BadWants(bad)
    bad = first_bad_word(has, wants)
    if bad is not None:
        raise BadHas(bad)


def read_for_main(store, row, wants, has):
    """The reading of a main and of the row behind it."""
    check_row(store, row)
    check_main(wants, has)
    reading = Reading(shelf_of(store))
    main = Object({name: ("strong", None) for name in has}, wants)
    reading.take(Card(MAIN, main), None)
    for name in row:
        reading.read(name)
    return reading


def came(store, row, wants, has):
    reading = read_for_main(store, row, wants, has)
    return sorted([who for who in reading.taken_cards if who != MAIN])


def face(store, row, wants, has):
    reading = read_for_main(store, row, wants, has)
    told = {}
    for who, card in reading.taken_cards.items():
        if who != MAIN:
            for name in card.definitions:
                told[name] = True
    return (tuple(sorted(told)), tuple(sorted(reading.doubled)), reading.missing_names())


def first_unclear(store, row):
    check_row(store, row)
    return unclear_name(store, archives_of(store, row))

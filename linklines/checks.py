"""What integers, words and lists are, asked of any object."""

LETTERS = "abcdefghijklmnopqrstuvwxyz"
SECTION_SIGNS = "abcdefghijklmnopqrstuvwxyz0123456789_."


def is_integer(thing):
    return isinstance(thing, int) and not isinstance(thing, bool)


def is_integer_from(least, thing):
    return is_integer(thing) and thing >= least


def is_list(thing):
    return isinstance(thing, (list, tuple))


def is_row_of(many, thing):
    return is_list(thing) and len(thing) == many


def is_written_in(signs, most, thing):
    return isinstance(thing, str) and 1 <= len(thing) <= most and all([sign in signs for sign in thing])


def is_word(thing):
    return is_written_in(LETTERS, 8, thing)


def is_section_name(thing):
    return is_written_in(SECTION_SIGNS, 12, thing)


def first_bad_word(things, barred):
    """The index of the first thing that is no word, is barred or stood before, 0 for no list, None if there is none."""
    if not is_list(things):
        return 0
    seen = {}
    for index, thing in enumerate(things):
        if not is_word(thing) or thing in barred or thing in seen:
            return index
        seen[thing] = True
    return None


def first_not_among(things, known):
    """The index of the first thing that is no key of known or stood before, 0 for no list, None if there is none."""
    if not is_list(things):
        return 0
    seen = {}
    for index, thing in enumerate(things):
        if not is_word(thing) or thing not in known or thing in seen:
            return index
        seen[thing] = True
    return None


def are_unlike_words(things):
    return first_bad_word(things, ()) is None


def frozen(thing):
    """The same with a tuple for each list in it, so that nobody can change it from outside."""
    if is_list(thing):
        return tuple([frozen(part) for part in thing])
    return thing


def ascending(table):
    """A new dict with the same things, keys ascending."""
    return {name: table[name] for name in sorted(table)}

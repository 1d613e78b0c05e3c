"""Tables of strings in which words stand, perhaps as ends of others."""

from linklines.checks import LETTERS, first_bad_word
from linklines.errors import BadTable, BadWords


def check_words(words):
    bad = first_bad_word(words, ())
    if bad is not None:
        raise BadWords(bad)


def least_strings(words):
    check_words(words)
    kept = [word for word in sorted(words) if not any([is_true_end(word, other) for other in words])]
    table = "".join([word + "." for word in kept])
    return (table, {word: table.find(word + ".") for word in sorted(words)})


def is_true_end(word, other):
    """Whether a word is an end of another one."""
    return word != other and other.endswith(word)


def is_string_table(thing):
    return isinstance(thing, str) and all([sign == "." or sign in LETTERS for sign in thing])


def holds_all(table, words):
    if not is_string_table(table):
        raise BadTable(table)
    check_words(words)
    return all([word + "." in table for word in words])


def grown_strings(words):
    check_words(words)
    table = ""
    for word in words:
        if word + "." not in table:
            table = table + word + "."
    return table


def first_dear(words):
    check_words(words)
    for index, word in enumerate(words):
        earlier = any([other.endswith(word) for other in words[:index]])
        if not earlier and any([other.endswith(word) for other in words[index + 1:]]):
            return index
    return None

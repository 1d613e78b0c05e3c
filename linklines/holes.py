"""Holes: what is known of objects that are not there yet."""

from linklines.checks import is_list, is_word
from linklines.errors import BadHole
from linklines.objects import Object, check_mark

SORTS = ("no", "wanted", "weak", "common", "strong")


def are_sorts(thing):
    """Whether a thing is a list, not empty, of unlike sorts."""
    if not is_list(thing) or len(thing) == 0:
        return False
    return all([sort in SORTS and thing.count(sort) == 1 for sort in thing])


class Hole:
    """The sorts that words can have in an object, and whether others may have any."""

    def __init__(self, sorts, others=True):
        if not isinstance(sorts, dict):
            raise BadHole(None)
        for word, kept in sorts.items():
            if not is_word(word) or not are_sorts(kept):
                raise BadHole(word)
        check_mark(others)
        self._sorts = {word: tuple([sort for sort in SORTS if sort in sorts[word]]) for word in sorted(sorts)}
        self._others = others

    def __eq__(self, other):
        return isinstance(other, Hole) and self._sorts == other._sorts and self._others == other._others

    def sorts(self):
        return dict(self._sorts)

    def others(self):
        return self._others

    def sorts_of(self, word):
        """The sorts that a word can have."""
        return self._sorts.get(word, SORTS if self._others else SORTS[:1])


def plain_face(obj):
    """The ascending tuple of the pairs (word, sort) of an object that are not "no"."""
    sorts = {name: definition[0] for name, definition in obj.names().items()}
    sorts.update({name: "wanted" for name in obj.wants()})
    return tuple([(name, sorts[name]) for name in sorted(sorts)])


def fills(hole, thing):
    if not isinstance(thing, Object):
        return False
    sorts = {word: "no" for word in hole.sorts()}
    sorts.update({word: sort for word, sort in plain_face(thing)})
    return all([sort in hole.sorts_of(word) for word, sort in sorts.items()])

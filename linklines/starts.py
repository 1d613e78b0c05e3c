"""Starts: what the libraries of a world call when they begin and when they end."""

from linklines.checks import is_list
from linklines.errors import BadBegins, BadEnds


def first_bad_calls(world, calls):
    """A tuple with the first key against it, with None for no dict, an empty one if there is none."""
    if not isinstance(calls, dict):
        return (None,)
    for library, names in calls.items():
        if not world.is_library(library) or not is_list(names):
            return (library,)
        if not all([world.is_slot(library, name) for name in names]):
            return (library,)
    return ()


def all_calls(world, calls):
    return {library: tuple(calls.get(library, ())) for library in world.names()}


class Starts:
    """A world, and what each of its libraries calls in its beginning and in its end."""

    def __init__(self, world, begins, ends):
        bad = first_bad_calls(world, begins)
        if bad:
            raise BadBegins(bad[0])
        bad = first_bad_calls(world, ends)
        if bad:
            raise BadEnds(bad[0])
        self._ground = world
        self._begins = all_calls(world, begins)
        self._ends = all_calls(world, ends)

    def __eq__(self, other):
        if not isinstance(other, Starts) or self._ground != other._ground:
            return False
        return self._begins == other._begins and self._ends == other._ends

    def world(self):
        return self._ground

    def begins(self):
        return dict(self._begins)

    def ends(self):
        return dict(self._ends)

"""One library for several."""

from linklines.checks import is_list
from linklines.errors import BadList
from linklines.objects import Library


def check_libraries(libraries):
    if not is_list(libraries) or len(libraries) == 0:
        raise BadList(0)
    for index, library in enumerate(libraries):
        if not isinstance(library, Library):
            raise BadList(index)


def references_of(libraries):
    """All pairs (at, name) of references of the libraries, by places, then names."""
    pairs = []
    for at, library in enumerate(libraries):
        pairs.extend([(at, name) for name in sorted([*library.wants(), *library.asks()])])
    return pairs


def binds_itself(library, name):
    return library.own_first() and name in library.tells()


def tells_one(libraries, name):
    return any([name in library.tells() for library in libraries])


def bar(libraries):
    check_libraries(libraries)
    pairs = references_of(libraries)
    for at, name in pairs:
        if binds_itself(libraries[at], name) and tells_one(libraries[:at], name):
            return ("two", at, name)
    inner = [(at, name) for at, name in pairs if tells_one(libraries, name)]
    own = [(at, name) for at, name in inner if binds_itself(libraries[at], name)]
    others = [(at, name) for at, name in inner if not binds_itself(libraries[at], name)]
    if own and others:
        return ("mixed", own[0], others[0])
    return None


def merged(libraries):
    if bar(libraries) is not None:
        return None
    tells = {}
    wants = {}
    asks = {}
    needs = {}
    for library in libraries:
        tells.update({name: True for name in library.tells()})
        wants.update({name: True for name in library.wants()})
        asks.update({name: True for name in library.asks()})
        needs.update({name: True for name in library.needs()})
    else_asked = [name for name in asks if name not in wants]
    own = any([binds_itself(libraries[at], name) for at, name in references_of(libraries)])
    stays = any([library.stays() for library in libraries])
    return Library(list(tells), list(wants), else_asked, list(needs), own, stays)

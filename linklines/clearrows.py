"""Rows of archives in which each name is told once, and the chains along which their members come."""

from linklines.checks import ascending, is_list, is_word
from linklines.errors import BadRow, NotClear
from linklines.objects import Archive


class Teller:
    """A member that tells a name: who it is, what it tells and wants, ascending."""

    def __init__(self, who, held):
        self.who = who
        self.names_told = list(held.names())
        self.names_wanted = held.wants()


def is_archive(store, name):
    return store.has_file(name) and isinstance(store.file(name), Archive)


def is_group(store, name):
    return store.has_file(name) and isinstance(store.file(name), tuple)


def check_row(store, row):
    if not is_list(row):
        raise BadRow(0)
    for index, name in enumerate(row):
        if not is_archive(store, name) and not is_group(store, name):
            raise BadRow(index)


def archives_at(store, name):
    return store.file(name) if is_group(store, name) else (name,)


def archives_of(store, row):
    """All archives of a row, each once."""
    found = {}
    for name in row:
        for archive in archives_at(store, name):
            found[archive] = True
    return sorted(found)


def unclear_name(store, archives):
    """The first name, ascending, that is not told strongly by just one member, None if there is none."""
    times = {}
    weak = {}
    for archive in archives:
        for _, held in store.file(archive).members():
            for name, (kind, _) in held.names().items():
                times[name] = times.get(name, 0) + 1
                if kind != "strong":
                    weak[name] = True
    for name in sorted(times):
        if times[name] > 1 or name in weak:
            return name
    return None


def check_clear(store, archives):
    name = unclear_name(store, archives)
    if name is not None:
        raise NotClear(name)


def tellers_of(store, archives):
    """The dict from each name that is told in clear archives to who tells it."""
    tellers = {}
    for archive in archives:
        for word, held in store.file(archive).members():
            teller = Teller((archive, word), held)
            for name in teller.names_told:
                tellers[name] = teller
    return ascending(tellers)


def clear_tellers(store, row):
    """The tellers of a row: BadRow, then NotClear."""
    check_row(store, row)
    archives = archives_of(store, row)
    check_clear(store, archives)
    return tellers_of(store, archives)


def goes_on(tellers, chain, name):
    """Whether a name can stand behind a chain, so that both together are one."""
    if name not in tellers:
        return False
    if tellers[name].who in [tellers[ahead].who for ahead in chain]:
        return False
    wanters = [ahead for ahead in chain if name in tellers[ahead].names_wanted]
    return len(wanters) == 1 and wanters[0] == chain[-1]


def all_chains(tellers):
    """All chains, in the order of choices."""
    found = []
    longest = [(name,) for name in tellers]
    while longest:
        found.extend(longest)
        longest = [(*chain, name) for chain in longest for name in tellers[chain[-1]].names_wanted
                   if goes_on(tellers, chain, name)]
    return found


def is_chain(tellers, thing):
    if not is_list(thing) or len(thing) == 0:
        return False
    if not all([is_word(name) and name in tellers for name in thing]):
        return False
    return all([goes_on(tellers, thing[:at], thing[at]) for at in range(1, len(thing))])


def word_along(tellers, chain):
    """The archives of the members that tell a chain's names, one that is repeated at once told once."""
    word = []
    for name in chain:
        archive = tellers[name].who[0]
        if len(word) == 0 or word[-1] != archive:
            word.append(archive)
    return word


def first_places(store, tellers, row, chain):
    """The first places that a chain's names can be given in a row, None if there are none."""
    places = []
    at = 0
    for name in chain:
        archive = tellers[name].who[0]
        while at < len(row) and archive not in archives_at(store, row[at]):
            at += 1
        if at == len(row):
            return None
        places.append(at)
    return places


def main_along(tellers, chain):
    """The main to which the last of a chain's members comes along this chain alone."""
    had = {}
    for name in chain[:-1]:
        for want in tellers[name].names_wanted:
            if want not in chain:
                had[want] = True
    return ((chain[0],), tuple(sorted(had)))

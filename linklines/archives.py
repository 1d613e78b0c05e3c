"""Archives that are alike for all mains, and wants that nobody hears."""

from linklines.clearrows import check_clear, is_archive, tellers_of
from linklines.errors import NoArchive, NoMember, NoWant
from linklines.mains import face
from linklines.objects import Archive, Object, check_mark


def check_archive(store, name):
    if not is_archive(store, name):
        raise NoArchive(name)


def loud_name(tellers, teller, want):
    """The first name come to from a want that is not told by a member that tells it alone, None if it is silent."""
    kept_off = [*teller.names_told, *[besides for besides in teller.names_wanted if besides != want]]
    queue = [want]
    at = 0
    while at < len(queue):
        name = queue[at]
        at += 1
        if name not in tellers or len(tellers[name].names_told) > 1:
            return name
        for further in tellers[name].names_wanted:
            if further not in queue and further not in kept_off:
                queue.append(further)
    return None


def kept_wants(tellers, teller, is_open):
    """The wants of a member that somebody can hear."""
    return [want for want in teller.names_wanted if is_open or loud_name(tellers, teller, want) is not None]


def others_told_with(tellers, name):
    """The names that the member that tells a name tells besides, none if nobody tells it."""
    if name not in tellers:
        return []
    return [other for other in tellers[name].names_told if other != name]


def main_of(name, had):
    """The main that wants a name and has all of had but this."""
    return ((name,), tuple(sorted({word: True for word in had if word != name})))


def main_that_hears(tellers, teller, want, wants):
    """A main that, of all wants that the member might have, lets this one alone be followed.

    What it has besides is a name told together with the loud one, which so is told twice.
    """
    had = [name for name in wants if name != want]
    loud = loud_name(tellers, teller, want)
    if loud is not None:
        had.extend(others_told_with(tellers, loud)[:1])
    return main_of(teller.names_told[0], had)


def mains_by_told(one, other):
    """Mains for which one member comes at most, unlike if it does not tell the same."""
    mains = []
    for name in sorted({**one, **other}):
        had = []
        for tellers in (one, other):
            if name in tellers:
                had.extend([*tellers[name].names_told, *tellers[name].names_wanted])
        mains.append(main_of(name, had))
    return mains


def mains_by_wants(one, other, is_open):
    """Mains for which a want that just one of two members has is followed."""
    mains = []
    for tellers, others in ((one, other), (other, one)):
        for name, teller in tellers.items():
            wants = kept_wants(tellers, teller, is_open)
            besides = kept_wants(others, others[name], is_open) if name in others else []
            for want in wants:
                if want not in besides:
                    mains.append(main_that_hears(tellers, teller, want, [*wants, *besides]))
    return mains


def archives_part(store, one, other, is_open):
    check_archive(store, one)
    check_archive(store, other)
    check_clear(store, [one])
    check_clear(store, [other])
    check_mark(is_open)
    ours = tellers_of(store, [one])
    theirs = tellers_of(store, [other])
    ahead = 0 if is_open else 1
    for wants, has in [*mains_by_told(ours, theirs), *mains_by_wants(ours, theirs, is_open)]:
        if face(store, [one], wants, has)[ahead:] != face(store, [other], wants, has)[ahead:]:
            return (wants, has)
    return None


def silent_wants(store, name):
    check_archive(store, name)
    check_clear(store, [name])
    tellers = tellers_of(store, [name])
    silent = {}
    for teller in tellers.values():
        for want in teller.names_wanted:
            if loud_name(tellers, teller, want) is None:
                silent[(teller.who[1], want)] = True
    return sorted(silent)


def member_called(tellers, member):
    """The member of that name that tells something, None if there is none."""
    for teller in tellers.values():
        if teller.who[1] == member:
            return teller
    return None


def heard_main(store, name, member, want):
    check_archive(store, name)
    check_clear(store, [name])
    tellers = tellers_of(store, [name])
    teller = member_called(tellers, member)
    if teller is None:
        raise NoMember(member)
    if want not in teller.names_wanted:
        raise NoWant(want)
    if loud_name(tellers, teller, want) is None:
        return None
    return main_that_hears(tellers, teller, want, teller.names_wanted)


def least_archive(store, name, is_open):
    check_archive(store, name)
    check_clear(store, [name])
    check_mark(is_open)
    tellers = tellers_of(store, [name])
    members = []
    for first, teller in tellers.items():
        if first == teller.names_told[0]:
            told = {word: ("strong", None) for word in teller.names_told}
            members.append((first, Object(told, kept_wants(tellers, teller, is_open))))
    return Archive(members)

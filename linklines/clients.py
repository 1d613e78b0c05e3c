"""Clients of releases, how long they are served, and nodes of versions."""

from linklines.checks import is_integer, is_integer_from, is_list, is_row_of
from linklines.errors import BadChange, BadClient, NotServed, Unsteady
from linklines.goodness import ground_of
from linklines.releases import is_words_row, unsteady


def check_client(ground, client):
    if not is_list(client):
        raise BadClient(0)
    seen = {}
    for index, thing in enumerate(client):
        if not is_words_row(3, thing) or thing[0] not in ground.counts or tuple(thing) in seen:
            raise BadClient(index)
        seen[tuple(thing)] = True


def is_told_at(ground, state, triple):
    return state[triple[0]] in ground.tellers.get(tuple(triple), [])


def served(releases, state, client):
    ground = ground_of(releases)
    known = ground.checked_state(state)
    check_client(ground, client)
    return all([is_told_at(ground, known, triple) for triple in client])


def stands_for(releases, library, newer, elder):
    if unsteady(releases) is not None:
        raise Unsteady()
    kept = releases.release(library, newer)[0]
    lacking = [pair for pair in releases.release(library, elder)[0] if pair not in kept]
    return lacking[0] if lacking else None


def lasting(releases, state, client):
    ground = ground_of(releases)
    known = ground.checked_state(state)
    check_client(ground, client)
    ground.check_good(known, state)
    for index, triple in enumerate(client):
        if not is_told_at(ground, known, triple):
            raise NotServed(index)
    bounds = dict(ground.counts)
    for triple in client:
        bounds[triple[0]] = min(bounds[triple[0]], ground.tellers[tuple(triple)][-1])
    return ground.lowered(bounds)


def is_change(thing):
    if not is_row_of(2, thing) or not is_integer_from(1, thing[0]) or not is_integer(thing[1]):
        return False
    return thing[0] < thing[1]


def check_changes(changes):
    if not is_list(changes):
        raise BadChange(0)
    for index, thing in enumerate(changes):
        if not is_change(thing):
            raise BadChange(index)


def deciding(changes):
    """The changes, by their ends, each of which begins where no node for the ones ahead serves it."""
    chosen = []
    last = 0
    for end, index in sorted([(change[1], index) for index, change in enumerate(changes)]):
        if changes[index][0] >= last:
            chosen.append(index)
            last = end
    return chosen


def least_nodes(changes):
    check_changes(changes)
    return [changes[index][1] for index in deciding(changes)]


def apart(changes):
    check_changes(changes)
    return sorted(deciding(changes))

"""Chains of a row: how wants lead from member to member."""

from linklines.clearrows import all_chains, clear_tellers, first_places, is_chain, word_along
from linklines.errors import BadChain


def chains(store, row):
    return all_chains(clear_tellers(store, row))


def word_of(store, row, chain):
    tellers = clear_tellers(store, row)
    if not is_chain(tellers, chain):
        raise BadChain(chain)
    return word_along(tellers, chain)


def places_of(store, row, chain):
    tellers = clear_tellers(store, row)
    if not is_chain(tellers, chain):
        raise BadChain(chain)
    return first_places(store, tellers, row, chain)

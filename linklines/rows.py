"""Rows for all mains: alike ones, safe ones, and orders that are safe."""

from itertools import permutations

from linklines.checks import is_list
from linklines.clearrows import all_chains, check_clear, check_row, clear_tellers
from linklines.clearrows import first_places, is_archive, main_along, tellers_of, word_along
from linklines.errors import BadRow


def rows_part(store, one, other):
    check_row(store, one)
    check_row(store, other)
    tellers = clear_tellers(store, [*one, *other])
    for chain in all_chains(tellers):
        places = first_places(store, tellers, one, chain)
        if (places is None) != (first_places(store, tellers, other, chain) is None):
            return main_along(tellers, chain)
    return None


def unsafe_main(store, row):
    tellers = clear_tellers(store, row)
    for chain in all_chains(tellers):
        if first_places(store, tellers, row, chain) is None:
            return main_along(tellers, chain)
    return None


def check_archives(store, names):
    if not is_list(names):
        raise BadRow(0)
    for index, name in enumerate(names):
        if not is_archive(store, name) or name in names[:index]:
            raise BadRow(index)
    check_clear(store, names)


def words_of(store, names):
    """The pairs (chain, word) of all chains of the archives."""
    tellers = tellers_of(store, names)
    return [(chain, word_along(tellers, chain)) for chain in all_chains(tellers)]


def keeps_words(order, words):
    """Whether each word goes ahead only in an order in which each archive stands once."""
    for _, word in words:
        places = [order.index(name) for name in word]
        if any([places[at] > places[at + 1] for at in range(len(places) - 1)]):
            return False
    return True


def once(store, names):
    check_archives(store, names)
    words = words_of(store, names)
    unlike = sorted(names)
    for order in permutations(unlike):
        if keeps_words(order, words):
            return list(order)
    return None


def pairs_ahead(words):
    """The dict from all pairs (ahead, behind) of places in a word to the first chain with such a word."""
    pairs = {}
    for chain, word in words:
        for at, ahead in enumerate(word):
            for behind in word[at + 1:]:
                pairs.setdefault((ahead, behind), chain)
    return pairs


def shortest_way_back(pairs, start):
    """The names of a shortest ring of pairs from start on, start not repeated; None if there is none."""
    queue = [start]
    ways = {start: [start]}
    at = 0
    while at < len(queue):
        here = queue[at]
        if (here, start) in pairs:
            return ways[here]
        for ahead, behind in pairs:
            if ahead == here and behind not in ways:
                ways[behind] = [*ways[here], behind]
                queue.append(behind)
        at += 1
    return None


def ring_against(store, names):
    check_archives(store, names)
    pairs = pairs_ahead(words_of(store, names))
    best = None
    for name in sorted(names):
        ring = shortest_way_back(pairs, name)
        if ring is not None and (best is None or len(ring) < len(best)):
            best = ring
    if best is None:
        return None
    behinds = [*best[1:], best[0]]
    return [(ahead, behind, pairs[(ahead, behind)]) for ahead, behind in zip(best, behinds)]

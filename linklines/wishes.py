"""Wishes: which words shall stand ahead of which, and the orders and numbers that keep them."""

from linklines.checks import ascending, first_bad_word, first_not_among, is_integer_from, is_list, is_row_of
from linklines.counting import count_orders
from linklines.errors import BadNumbers, BadOrder, BadWishes, BadWords, Ringed


def is_wish(thing, words):
    return is_row_of(2, thing) and thing[0] in words and thing[1] in words and thing[0] != thing[1]


def check_wishes(words, pairs):
    bad = first_bad_word(words, ())
    if bad is not None:
        raise BadWords(bad)
    if not is_list(pairs):
        raise BadWishes(0)
    for index, thing in enumerate(pairs):
        if not is_wish(thing, words):
            raise BadWishes(index)


class Wishes:
    """Words, and pairs of which the one is wished ahead of the other."""

    def __init__(self, words, pairs):
        check_wishes(words, pairs)
        self._words = list(words)
        self._pairs = [tuple(pair) for pair in pairs]

    def __eq__(self, other):
        return isinstance(other, Wishes) and self._words == other._words and self._pairs == other._pairs

    def words(self):
        return list(self._words)

    def pairs(self):
        return list(self._pairs)


def followers_of(wishes):
    """For each word, ascending, the list of those that it is wished ahead of, ascending."""
    follows = {word: {} for word in sorted(wishes.words())}
    for one, other in wishes.pairs():
        follows[one][other] = True
    return {word: sorted(others) for word, others in follows.items()}


def first_way(follows, origin, target):
    """The first shortest row of wishes from a word to another one or back to itself, None if there is none."""
    waiting = [(origin,)]
    met = {}
    while waiting:
        reached = []
        for way in waiting:
            for word in follows[way[-1]]:
                if word == target:
                    return way
                if word not in met:
                    met[word] = True
                    reached.append((*way, word))
        waiting = reached
    return None


def wish_ring(wishes):
    follows = followers_of(wishes)
    rings = [first_way(follows, word, word) for word in follows]
    rings = sorted([(len(ring), ring) for ring in rings if ring is not None])
    return list(rings[0][1]) if rings else None


def followers_without_ring(wishes):
    ring = wish_ring(wishes)
    if ring is not None:
        raise Ringed(ring)
    return followers_of(wishes)


def first_order(wishes):
    follows = followers_without_ring(wishes)
    order = []
    while len(order) < len(follows):
        left = [word for word in follows if word not in order]
        order.append(free_among(follows, left)[0])
    return order


def free_among(follows, left):
    """Those of the words left that none of them is wished ahead of."""
    barred = {other: True for word in left for other in follows[word]}
    return [word for word in left if word not in barred]


def many_orders(wishes):
    follows = followers_without_ring(wishes)
    bits = {word: 1 << at for at, word in enumerate(follows)}
    return count_orders([sum([bits[one] for one in follows if word in follows[one]]) for word in follows])


def sure_pairs(wishes):
    return surely_ahead_pairs(followers_without_ring(wishes))


def surely_ahead_pairs(follows):
    return [(one, other) for one in follows for other in follows if first_way(follows, one, other) is not None]


def is_order_of(follows, thing):
    if first_not_among(thing, follows) is not None or len(thing) != len(follows):
        return False
    place = {word: at for at, word in enumerate(thing)}
    return all([place[one] < place[other] for one in follows for other in follows[one]])


def least_more(wishes, order):
    follows = followers_without_ring(wishes)
    if not is_order_of(follows, order):
        raise BadOrder(order)
    sure = surely_ahead_pairs(follows)
    neighbours = [(order[at], order[at + 1]) for at in range(len(order) - 1)]
    return [pair for pair in neighbours if pair not in sure]


def chains_from(follows):
    """For each word the first longest chain of words that begins with it."""
    chains = {}
    while len(chains) < len(follows):
        for word in follows:
            if word not in chains and all([other in chains for other in follows[word]]):
                chains[word] = (word, *first_longest([chains[other] for other in follows[word]]))
    return chains


def first_longest(rows):
    most = max([len(row) for row in rows], default=0)
    return min([row for row in rows if len(row) == most], default=())


def least_numbers(wishes):
    follows = followers_without_ring(wishes)
    numbers = {}
    left = list(follows)
    number = 0
    while left:
        free = free_among(follows, left)
        numbers.update({word: number for word in free})
        left = [word for word in left if word not in numbers]
        number += 1
    return ascending(numbers)


def longest_chain(wishes):
    chains = chains_from(followers_without_ring(wishes))
    return list(first_longest(list(chains.values())))


def are_numbers(follows, thing):
    if not isinstance(thing, dict) or len(thing) != len(follows):
        return False
    return all([word in thing and is_integer_from(0, thing[word]) for word in follows])


def breaking_line(wishes, numbers):
    follows = followers_without_ring(wishes)
    if not are_numbers(follows, numbers):
        raise BadNumbers(numbers)
    lines = []
    for one in follows:
        for other in follows[one]:
            if numbers[one] > numbers[other]:
                lines.append(list(follows))
            elif numbers[one] == numbers[other]:
                lines.append(first_line_with(list(follows), other, one))
    return min(lines, default=None)


def first_line_with(words, one, other):
    """The first line in which the one stands ahead of the other, of ascending words."""
    if one < other:
        return words
    line = [word for word in words if word != other]
    at = line.index(one) + 1
    return [*line[:at], other, *line[at:]]

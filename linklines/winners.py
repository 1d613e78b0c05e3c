"""Classes of files and of names, and the first inputs that rules win."""

from linklines.checks import LETTERS, SECTION_SIGNS, is_integer_from
from linklines.errors import NoRule


class Classes:
    """The lots of rules, as bits, that match words of some signs and lengths, each with its first word."""

    def __init__(self, matchers, signs, most):
        self.matchers = matchers
        self.signs = sorted(signs)
        self.known = {}
        self.firsts = {}
        ways = {tuple([matcher.first_places() for matcher in matchers]): ""}
        for _ in range(most):
            ways = self.longer(ways)
            for places, word in ways.items():
                self.firsts.setdefault(self.lot_of(places), word)

    def longer(self, ways):
        """The first words with one sign more, ascending, from the places behind them."""
        further = {}
        for places, word in ways.items():
            for sign, reached in zip(self.signs, self.reached_from(places)):
                further.setdefault(reached, word + sign)
        return further

    def reached_from(self, places):
        """The places behind one sign more, sign by sign."""
        if places not in self.known:
            self.known[places] = [self.places_behind(places, sign) for sign in self.signs]
        return self.known[places]

    def places_behind(self, places, sign):
        return tuple([matcher.step(bits, sign) for matcher, bits in zip(self.matchers, places)])

    def lot_of(self, places):
        ends = [matcher.is_end(bits) for matcher, bits in zip(self.matchers, places)]
        return sum([1 << at for at, is_end in enumerate(ends) if is_end])

    def told(self):
        return [(tuple(numbers_in(lot)), word) for lot, word in self.firsts.items()]


def numbers_in(lot):
    return [at for at in range(lot.bit_length()) if lot & (1 << at)]


def file_parts(script):
    return Classes(script.matchers_of(0), LETTERS, 8)


def name_parts(script):
    return Classes(script.matchers_of(1), SECTION_SIGNS, 12)


def file_classes(script):
    return file_parts(script).told()


def name_classes(script):
    return name_parts(script).told()


def first_inputs(script):
    """The first input that each rule wins, by the rule's bit, and the first one that none takes, by 0."""
    files, names = file_parts(script).firsts, name_parts(script).firsts
    firsts = {}
    for file_lot, file in files.items():
        for name_lot, name in names.items():
            shared = file_lot & name_lot
            found = (len(file) + len(name), file, name)
            winner = shared & -shared
            if winner not in firsts or found < firsts[winner]:
                firsts[winner] = found
    return {winner: (file, name) for winner, (_, file, name) in firsts.items()}


def first_won(script, number):
    if not is_integer_from(0, number) or number >= len(script.rules()):
        raise NoRule(number)
    return first_inputs(script).get(1 << number)


def first_untaken(script):
    return first_inputs(script).get(0)

"""Rules of one script or of several, and all lots of them that match one input."""

from linklines.checks import LETTERS, SECTION_SIGNS
from linklines.walks import Walk


def numbers_in(lot):
    return [at for at in range(lot.bit_length()) if lot & (1 << at)]


class Pool:
    """Rules side by side; lots of them are told by the bits of their numbers."""

    def __init__(self, rules):
        self.kept_rules = [tuple(rule) for rule in rules]
        self.file_walk = Walk([rule[1] for rule in self.kept_rules], LETTERS, 8)
        self.name_walk = Walk([rule[2] for rule in self.kept_rules], SECTION_SIGNS, 12)
        self.file_firsts = self.file_walk.first_words()
        self.name_firsts = self.name_walk.first_words()

    def out(self, number):
        return self.kept_rules[number][0]

    def is_by_name(self, number):
        return self.kept_rules[number][3] == "name"

    def first_shared(self):
        """The dict from the lots that match an input to the first one: its number of signs, its file, its name."""
        firsts = {}
        for file_lot, file in self.file_firsts.items():
            for name_lot, name in self.name_firsts.items():
                found = (len(file) + len(name), file, name)
                lot = file_lot & name_lot
                if lot not in firsts or found < firsts[lot]:
                    firsts[lot] = found
        return firsts

    def spans_shared(self):
        """The dict from the lots that match an input to the least and the greatest name, as strings compare."""
        least, greatest = self.name_walk.least_words(), self.name_walk.greatest_words()
        spans = {}
        for file_lot in self.file_firsts:
            for name_lot, low in least.items():
                lot, high = file_lot & name_lot, greatest[name_lot]
                if lot in spans:
                    low, high = min(low, spans[lot][0]), max(high, spans[lot][1])
                spans[lot] = (low, high)
        return spans

"""Walks letter by letter along all patterns of a list at once."""

from linklines.patterns import over_stars, tokens_of


class Walk:
    """Patterns side by side; PLACES are the bits of the numbers of tokens that can be behind a row of signs."""

    def __init__(self, patterns, signs, most):
        self.signs = sorted(signs)
        self.most = most
        self.stars = 0
        self.begin = 0
        self.end_bits = []
        self.takes = [0] * len(self.signs)
        self.lots = {}
        self.known = {}
        for pattern in patterns:
            self.add_pattern(tokens_of(pattern))
        self.layers = [{over_stars(self.begin, self.stars): ""}]
        for _ in range(most):
            self.layers.append(self.longer(self.layers[-1]))

    def add_pattern(self, tokens):
        origin = self.end_bits[-1] + 1 if self.end_bits else 0
        self.begin += 1 << origin
        for at, token in enumerate(tokens):
            if token == "*":
                self.stars += 1 << (origin + at)
                continue
            for number, sign in enumerate(self.signs):
                if sign in token:
                    self.takes[number] += 1 << (origin + at)
        self.end_bits.append(origin + len(tokens))

    def longer(self, ways):
        """The first words with one sign more, ascending, from the places behind them."""
        further = {}
        for places, word in ways.items():
            for sign, reached in zip(self.signs, self.reached_from(places)):
                if reached not in further:
                    further[reached] = word + sign
        return further

    def reached_from(self, places):
        """The places behind one sign more, sign by sign."""
        if places not in self.known:
            held = places & self.stars
            taken = {}
            for bits in self.takes:
                if places & bits not in taken:
                    taken[places & bits] = over_stars(held | ((places & bits) << 1), self.stars)
            self.known[places] = [taken[places & bits] for bits in self.takes]
        return self.known[places]

    def lot_of(self, places):
        """The bits of the patterns that match what led to these places."""
        if places not in self.lots:
            self.lots[places] = sum([1 << at for at, end in enumerate(self.end_bits) if (places >> end) & 1])
        return self.lots[places]

    def first_words(self):
        """The dict from the lots of patterns that match some word to the first such word, in the order of these."""
        firsts = {}
        for layer in self.layers[1:]:
            for places, word in layer.items():
                firsts.setdefault(self.lot_of(places), word)
        return firsts

    def least_words(self):
        """The dict from the same lots to the word, however long, that is least as strings compare."""
        found = {}
        self.go_up(over_stars(self.begin, self.stars), "", {}, found)
        return found

    def go_up(self, places, word, met, found):
        if word:
            found.setdefault(self.lot_of(places), word)
        if len(word) == self.most:
            return
        for sign, reached in zip(self.signs, self.reached_from(places)):
            if (reached, len(word)) not in met:
                met[(reached, len(word))] = True
                self.go_up(reached, word + sign, met, found)

    def greatest_words(self):
        """The dict from the same lots to the word that is greatest as strings compare."""
        found = {}
        self.go_down(over_stars(self.begin, self.stars), "", {}, found)
        return found

    def go_down(self, places, word, met, found):
        if len(word) < self.most:
            for sign, reached in reversed(list(zip(self.signs, self.reached_from(places)))):
                if (reached, len(word)) not in met:
                    met[(reached, len(word))] = True
                    self.go_down(reached, word + sign, met, found)
        if word:
            found.setdefault(self.lot_of(places), word)

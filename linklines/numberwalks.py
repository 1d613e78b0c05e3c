"""Walks letter by letter over the numbers of words, in one table of names or in two at once."""

from linklines.checks import LETTERS

LENGTHS = (1, 2, 3, 4, 5, 6, 7, 8)


def worth_of(letter):
    return LETTERS.index(letter) + 1


def by_length(word):
    """The key by which words are compared: by length, then as Python compares."""
    return (len(word), word)


class NumberWalk:
    """Where each letter leads from the numbers that a word has so far, one for each pair (factor, modulo)."""

    def __init__(self, measures):
        self.factors = list(measures)
        self.begin = tuple([0 for _ in self.factors])
        self.nexts = {}
        waiting = [self.begin]
        for _ in LENGTHS:
            reached = {}
            for numbers in waiting:
                self.nexts[numbers] = [self.follow(numbers, letter) for letter in range(1, 27)]
                reached.update({further: True for further in self.nexts[numbers]})
            waiting = [numbers for numbers in reached if numbers not in self.nexts]
        self.last = waiting

    def all_numbers(self):
        """All that some word has."""
        return [*self.nexts, *self.last]

    def follow(self, numbers, letter):
        return tuple([(factor * at + letter) % modulo for at, (factor, modulo) in zip(numbers, self.factors)])

    def behind(self, word):
        numbers = self.begin
        for sign in word:
            numbers = self.follow(numbers, worth_of(sign))
        return numbers

    def many_of_length(self, length):
        """The dict from the numbers that words of a length have to how many have them."""
        many = {self.begin: 1}
        for _ in range(length):
            further = {}
            for numbers, count in many.items():
                for reached in self.nexts[numbers]:
                    further[reached] = further.get(reached, 0) + count
            many = further
        return many

    def first_word(self, targets, barred):
        """The first word that leads to one of the targets and is none of those barred, None if there is none."""
        barred = [word for word in barred if self.behind(word) in targets]
        tables = [{numbers: 1 for numbers in targets}]
        for length in LENGTHS:
            further = {}
            for numbers, reached in self.nexts.items():
                further[numbers] = sum([tables[-1].get(at, 0) for at in reached])
            tables.append(further)
            if further[self.begin] > len([word for word in barred if len(word) == length]):
                return self.spelled(tables, [word for word in barred if len(word) == length])
        return None

    def spelled(self, tables, barred):
        """The first word, letter by letter, where tables tell from how many ways targets are reached."""
        word = ""
        numbers = self.begin
        for table in tables[-2::-1]:
            for sign, reached in zip(LETTERS, self.nexts[numbers]):
                known = [other for other in barred if other.startswith(word + sign)]
                if table.get(reached, 0) > len(known):
                    word = word + sign
                    numbers = reached
                    break
        return word

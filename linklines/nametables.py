"""Tables of names: buckets, spots, and how many steps each word of all takes."""

from math import gcd

from linklines.checks import is_integer_from, is_word
from linklines.errors import BadLength, BadNumber, BadWord
from linklines.numberwalks import LENGTHS, NumberWalk, by_length, worth_of
from linklines.strings import check_words


def check_number(number):
    if not is_integer_from(1, number):
        raise BadNumber(number)


class NameTable:
    """Words in buckets by their numbers, and the spots by which most others are seen not to be there."""

    def __init__(self, words, factor, modulo, buckets, spots):
        check_words(words)
        for number in (factor, modulo, buckets, spots):
            check_number(number)
        self._words = list(words)
        self._measures = (factor, modulo, buckets, spots)
        self._numbers = [self.number_of_word(word) for word in words]
        self._marked = {spot: True for number in self._numbers for spot in self.spots_of(number)}
        self._many_of = {}
        self._many_in = {}
        for number in self._numbers:
            bucket = self.bucket_of(number)
            self._many_of[number] = self._many_of.get(number, 0) + 1
            self._many_in[bucket] = self._many_in.get(bucket, 0) + 1

    def __eq__(self, other):
        return isinstance(other, NameTable) and self._words == other._words and self._measures == other._measures

    def words(self):
        return list(self._words)

    def find(self, word):
        if not is_word(word):
            raise BadWord(word)
        if word not in self._words:
            return (None, self.steps_of(self.number_of_word(word)))
        number = self.number_of_word(word)
        place = self._words.index(word)
        mates = [other for other in self._numbers[:place + 1] if self.bucket_of(other) == self.bucket_of(number)]
        return (place, len(mates) + mates.count(number))

    def measures(self):
        """The factor, the modulo, the numbers of buckets and of spots."""
        return self._measures

    def number_of_word(self, word):
        number = 0
        for sign in word:
            number = (self._measures[0] * number + worth_of(sign)) % self._measures[1]
        return number

    def bucket_of(self, number):
        return number % self._measures[2]

    def spots_of(self, number):
        return (number % self._measures[3], number // self._measures[3] % self._measures[3])

    def does_pass(self, number):
        """Whether all spots of a word with this number are there."""
        return all([spot in self._marked for spot in self.spots_of(number)])

    def steps_of(self, number):
        """How many steps a word with this number takes that is not in the table."""
        if not self.does_pass(number):
            return 0
        return self._many_in.get(self.bucket_of(number), 0) + self._many_of.get(number, 0)


def walk_of(*tables):
    return NumberWalk([table.measures()[:2] for table in tables])


def check_length(length):
    if not is_integer_from(1, length) or length > 8:
        raise BadLength(length)


def numbers_at(table, length):
    check_length(length)
    counts = walk_of(table).many_of_length(length)
    return {numbers[0]: counts[numbers] for numbers in sorted(counts)}


def words_at(table, length):
    return [word for word in table.words() if len(word) == length]


def false_passes(table, length):
    counts = numbers_at(table, length)
    passing = sum([many for number, many in counts.items() if table.does_pass(number)])
    return passing - len(words_at(table, length))


def mean_steps(table, length):
    counts = numbers_at(table, length)
    total = sum([many * table.steps_of(number) for number, many in counts.items()])
    for word in words_at(table, length):
        total += table.find(word)[1] - table.steps_of(table.number_of_word(word))
    every = sum(list(counts.values()))
    shared = gcd(total, every)
    return (total // shared, every // shared)


def first_false(table):
    walk = walk_of(table)
    targets = {numbers: True for numbers in walk.all_numbers() if table.does_pass(numbers[0])}
    return walk.first_word(targets, table.words())


def steps_of_others(table, walk):
    """The dict from the numbers that some word has that is not in the table to the steps that such a word takes."""
    told = {}
    for length in LENGTHS:
        counts = walk.many_of_length(length)
        for word in words_at(table, length):
            counts[walk.behind(word)] -= 1
        told.update({numbers: table.steps_of(numbers[0]) for numbers, many in counts.items() if many > 0})
    return told


def most_steps(table):
    walk = walk_of(table)
    others = steps_of_others(table, walk)
    own = {word: table.find(word)[1] for word in table.words()}
    most = max(list(others.values()) + list(own.values()))
    found = [word for word, steps in own.items() if steps == most]
    other = walk.first_word({numbers: True for numbers, steps in others.items() if steps == most}, table.words())
    if other is not None:
        found.append(other)
    return (most, min(found, key=by_length))


def are_parted(one, other, word):
    if (word in one.words()) != (word in other.words()):
        return True
    return one.find(word)[1] != other.find(word)[1]


def parted_by(one, other):
    walk = walk_of(one, other)
    targets = {}
    for numbers in walk.all_numbers():
        if one.steps_of(numbers[0]) != other.steps_of(numbers[1]):
            targets[numbers] = True
    known = [*one.words(), *other.words()]
    known = [word for at, word in enumerate(known) if word not in known[:at]]
    found = [word for word in known if are_parted(one, other, word)]
    further = walk.first_word(targets, known)
    if further is not None:
        found.append(further)
    return min(found, key=by_length) if found else None


def least_buckets(words, factor, modulo, most):
    check_words(words)
    for number in (factor, modulo, most):
        check_number(number)
    table = NameTable(words, factor, modulo, 1, 1)
    numbers = [table.number_of_word(word) for word in words]
    if any([numbers.count(number) > most for number in numbers]):
        return None
    lots = []
    for buckets in range(1, modulo + 1):
        full = fullest(words, numbers, buckets, most)
        if full is None:
            return (buckets, lots)
        lots.append(full)
    return None


def fullest(words, numbers, buckets, most):
    """The first words of the least bucket that has more than so many, one more than these; None if none has more."""
    filled = {}
    for word, number in zip(words, numbers):
        filled.setdefault(number % buckets, []).append(word)
    full = [bucket for bucket, held in filled.items() if len(held) > most]
    return tuple(filled[min(full)][:most + 1]) if full else None

"""Words that are told letter by letter: which letters and lengths can come so that all that is owed can be told."""

from linklines.checks import LETTERS

LENGTHS = (1, 2, 3, 4, 5, 6, 7, 8)
POWERS = (1, 26, 676, 17576, 456976, 11881376, 308915776, 8031810176, 208827064576)


def rank_of(word):
    """The number of a word among all of its length."""
    rank = 0
    for sign in word:
        rank = 26 * rank + LETTERS.index(sign)
    return rank


def word_at(rank, length):
    word = ""
    for _ in range(length):
        word = LETTERS[rank % 26] + word
        rank = rank // 26
    return word


def first_rank_above(word, length):
    """The number of the least word of a length that is greater than a word, as strings compare; any is for ""."""
    if len(word) >= length:
        return rank_of(word[:length]) + 1
    return rank_of(word) * POWERS[length - len(word)]


def many_above(word):
    """For each length how many words are greater than a word."""
    return [POWERS[length] - first_rank_above(word, length) for length in LENGTHS]


class Ascending:
    """Words each of which has to be greater than the one ahead, of which so many are still owed."""

    def __init__(self, owed):
        self.owed = owed
        self.last = ""

    def take(self, word):
        self.last = word
        self.owed -= 1

    def can_begin(self, length, begin):
        """Whether some word of this length that begins so can come."""
        word = self.least(length, begin)
        return word is not None and sum(many_above(word)) >= self.owed - 1

    def least(self, length, begin):
        """The least word of this length that begins so and is greater than the last one, None if there is none."""
        left = length - len(begin)
        low = max(rank_of(begin) * POWERS[left], first_rank_above(self.last, length))
        return word_at(low, length) if low < (rank_of(begin) + 1) * POWERS[left] else None

    def signs_owed(self, word, many):
        """The fewest signs of so many unlike words that are greater than a word."""
        total = 0
        for length, count in zip(LENGTHS, many_above(word)):
            total += length * min(many, count)
            many -= min(many, count)
        return total

    def best_length(self):
        """The length of the next word with which the fewest signs are told in all, the least one of several."""
        best = ()
        for length in LENGTHS:
            if self.can_begin(length, ""):
                found = (length + self.signs_owed(self.least(length, ""), self.owed - 1), length)
                if best == () or found < best:
                    best = found
        return best[1]


class Unlike:
    """Words no two of which are the same, in any order."""

    def __init__(self):
        self.standing_words = {}

    def take(self, word):
        self.standing_words[word] = True

    def can_begin(self, length, begin):
        known = [word for word in self.standing_words if len(word) == length and word.startswith(begin)]
        return len(known) < POWERS[length - len(begin)]

    def best_length(self):
        return min([length for length in LENGTHS if self.can_begin(length, "")])

"""Steady releases made at random from a seed, and their good states, read plainly after the document."""

import itertools
import random

from linklines.releases import Releases, unsteady


def example_42():
    return {"b": [([("y", "u")], []), ([("y", "v")], [])],
            "a": [([("x", "u")], [("b", "y", "u")]), ([("x", "v")], [("b", "y", "v")])]}


def example_42_wide():
    """The example whose b's second release tells both."""
    made = example_42()
    made["b"][1][0].append(("y", "u"))
    return made


def unsteady_example():
    """The three releases of [37]: the middle one wants what the second alone tells, the third what the first does."""
    return {"a": [([], []), ([], [("b", "y", "v")]), ([], [("b", "y", "u")])],
            "b": [([("y", "u")], []), ([("y", "v")], [])]}


def told_pairs(dice, many):
    """For each release the pairs that it tells: each pair is told without a gap."""
    told = [[] for _ in range(many)]
    for name in "xy":
        at = 0
        for version in "uvwz":
            start = max(0, at + dice.choice([-1, 0, 0, 1]))
            end = min(many, start + dice.randint(1, 3))
            for number in range(start, end):
                told[number].append((name, version))
            at = end
            if at >= many:
                break
    return told


def wanted_triples(dice, made, word, chance):
    """Wants that go on: at each release perhaps some pair told around a place of the other one that goes on, too."""
    many = len(made[word])
    wants = [[] for _ in range(many)]
    for other in made:
        if other == word:
            continue
        at = 0
        for number in range(many):
            at = min(len(made[other]) - 1, at + dice.choice([0, 0, 1, 1, 2]))
            for name, version in made[other][at]:
                if dice.random() < chance:
                    wants[number].append((other, name, version))
            if dice.random() < 0.06:
                wants[number].append((other, "q", "q"))
    return wants


def release_made(seed, words=("a", "b", "c"), most=4, chance=0.4):
    dice = random.Random(seed)
    told = {word: told_pairs(dice, dice.randint(1, most)) for word in words}
    made = {}
    for word in words:
        made[word] = list(zip(told[word], wanted_triples(dice, told, word, chance)))
    return made


def windows(dice, many, others):
    """For each release the first and the last one of another library that fits, neither ever going back."""
    width = dice.choice([0, 1, 1, 2])
    first = 1
    found = []
    for _ in range(many):
        found.append((first, max([min(others, first + width), *[last for _, last in found]])))
        first = min(others, first + dice.choice([0, 0, 1, 1, 2]))
    return found


def window_made(seed, words=("a", "b", "c"), most=4):
    """Releases that tell from where on, and up to where, they stand, and want of others that these are just so far."""
    dice = random.Random(seed)
    counts = {word: dice.randint(1, most) for word in words}
    signs = "zabcdefgh"
    made = {}
    for word in words:
        made[word] = []
        for number in range(1, counts[word] + 1):
            tells = [("from", signs[at]) for at in range(1, number + 1)]
            tells.extend(("to", signs[at]) for at in range(number, counts[word] + 1))
            made[word].append((tells, []))
    for word in words:
        for other in words:
            if other != word and dice.random() < 0.5:
                for (_, wants), (first, last) in zip(made[word], windows(dice, counts[word], counts[other])):
                    wants.extend([(other, "from", signs[first]), (other, "to", signs[last])])
        for _, wants in made[word]:
            if dice.random() < 0.06:
                wants.append((dice.choice([other for other in words if other != word]), "no", "no"))
    return made


def steady_made(many, words=("a", "b", "c"), most=4, chance=0.4):
    """So many dicts of steady releases, of two sorts."""
    found = []
    seed = 0
    while len(found) < many:
        made = release_made(seed, words, most, chance) if seed % 2 else window_made(seed, words, most)
        if unsteady(Releases(made)) is None:
            found.append(made)
        seed += 1
    return found


def all_states(made):
    words = sorted(made)
    for numbers in itertools.product(*[range(1, len(made[word]) + 1) for word in words]):
        yield dict(zip(words, numbers))


def does_fit(made, library, number, other, at):
    return all(triple[1:] in made[other][at - 1][0] for triple in made[library][number - 1][1] if triple[0] == other)


def is_dead(made, library, number):
    return any(not does_fit_any(made, library, number, other) for other in made if other != library)


def does_fit_any(made, library, number, other):
    return any(does_fit(made, library, number, other, at + 1) for at in range(len(made[other])))


def is_plainly_good(made, state):
    return all(does_fit(made, one, state[one], other, state[other]) for one in made for other in made if one != other)


def good_states(made):
    return [state for state in all_states(made) if is_plainly_good(made, state)]


def is_below(one, other):
    """Whether one state is nowhere above the other."""
    return all(one[word] <= other[word] for word in one)


def all_goings(goods, state, goal):
    """All rows of neighbours from a good state to another one, no good one between any two of them."""
    if state == goal:
        return [[state]]
    above = [other for other in goods if is_below(state, other) and is_below(other, goal) and other != state]
    nexts = [one for one in above if not any(other != one and is_below(other, one) for other in above)]
    return [[state, *way] for other in nexts for way in all_goings(goods, other, goal)]


def changes_of(way):
    return [{word: (one[word], other[word]) for word in one if one[word] != other[word]}
            for one, other in zip(way, way[1:])]

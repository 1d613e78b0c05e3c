"""Promises 59 and 60: who begins at first use."""

import random
import unittest

from linklines.uses import Uses, first_uses, half_met
from tests.tools import any_objects, as_lists, as_tuples, call_alike, raised, spoil


def random_calls(seed, most=4, forward=False):
    dice = random.Random(seed)
    words = dice.sample("abcdef", dice.randint(1, most))
    return {word: [other for other in dice.choices(words, k=dice.randint(0, 3))
                   if not forward or words.index(other) > at] for at, word in enumerate(words)}


def plain_events(calls, word):
    """Events along a pile of those that are half begun."""
    events, stages, pile = [("begins", word)], {word: "half"}, [(word, 0)]
    while pile:
        one, at = pile.pop()
        if at == len(calls[one]):
            stages[one] = "begun"
            events.append(("begun", one))
            continue
        called = calls[one][at]
        if called in stages:
            events.append(("meets", one, called, stages[called]))
            pile.append((one, at + 1))
        else:
            stages[called] = "half"
            events.append(("begins", called))
            pile.extend([(one, at), (called, 0)])
    return events


def comes_back(calls):
    reached = {word: set(others) for word, others in calls.items()}
    for _ in calls:
        reached = {word: others | {far for other in others for far in reached[other]} for word, others in reached.items()}
    return any(word in others for word, others in reached.items())


class TestUses(unittest.TestCase):
    def test_what_is_told(self):
        calls = {"b": ["a", "a"], "a": []}
        uses = Uses(calls)
        self.assertEqual(list(uses.calls().items()), [("a", ()), ("b", ("a", "a"))])
        calls["b"].append("b")
        calls["c"] = []
        spoil(uses.calls())
        self.assertEqual(uses, Uses(calls={"a": (), "b": ("a", "a")}))
        for other in [Uses({"a": [], "b": ["a"]}), Uses({"a": []}), Uses({"a": [], "b": ["a", "a"], "c": []}), *any_objects()]:
            self.assertFalse(uses == other)
        self.assertEqual(Uses({}).calls(), {})

    def test_events(self):
        seen = {"half": 0, "none": 0}
        for seed in range(300):
            calls = random_calls(seed, forward=seed % 2 == 0)
            uses = Uses(as_tuples(calls) if seed % 3 else as_lists(calls))
            halves = []
            for word in sorted(calls):
                told = first_uses(uses, word)
                self.assertEqual(told, plain_events(calls, word))
                begins = [event[1] for event in told if event[0] == "begins"]
                self.assertEqual(len(begins), len(set(begins)))
                halves.extend((word, event) for event in told if event[0] == "meets" and event[3] == "half")
            self.assertEqual(half_met(uses), halves[0] if halves else None)
            self.assertIs(half_met(uses) is None, not comes_back(calls))
            seen["half" if halves else "none"] += 1
        self.assertGreater(min(seen.values()), 50)

    def test_behind_the_events_of_the_called_one(self):
        uses = Uses({"a": ["b", "b"], "b": ["c"], "c": []})
        self.assertEqual(call_alike(self, first_uses, uses, "a"), [
            ("begins", "a"), ("begins", "b"), ("begins", "c"), ("begun", "c"), ("meets", "b", "c", "begun"), ("begun", "b"),
            ("meets", "a", "b", "begun"), ("meets", "a", "b", "begun"), ("begun", "a")])
        self.assertIsNone(call_alike(self, half_met, uses))
        self.assertEqual(first_uses(uses=uses, word="c"), [("begins", "c"), ("begun", "c")])

    def test_the_example(self):
        uses = Uses({"a": ["b"], "b": ["a"]})
        self.assertEqual(call_alike(self, half_met, uses), ("a", ("meets", "b", "a", "half")))
        self.assertEqual(half_met(Uses({"b": [], "a": ["a"]})), ("a", ("meets", "a", "a", "half")))
        self.assertIsNone(half_met(Uses({})))

    def test_nine_words(self):
        words = "abcdefghi"
        uses = Uses({word: list(words) for word in words})
        events = first_uses(uses, "e")
        self.assertEqual(len(events), 9 * 11)
        self.assertEqual(half_met(uses), ("a", ("meets", "a", "a", "half")))

    def test_errors(self):
        for thing in any_objects():
            if not isinstance(thing, dict):
                self.assertEqual(raised(Uses, thing), ("BadUses", None))
            if not isinstance(thing, (list, tuple)):
                self.assertEqual(raised(Uses, {"b": [], "a": thing, "c": 0}), ("BadUses", "a"))
            self.assertEqual(raised(Uses, {"b": [], "a": ["b", thing], "c": 0}), ("BadUses", "a"))
            self.assertEqual(raised(first_uses, Uses({"a": []}), thing), ("NoLibrary", thing))
        for key in (None, 1, "", "A", ("a",), True):
            self.assertEqual(raised(Uses, {"a": [], key: [], "b": 0}), ("BadUses", key))
        self.assertEqual(raised(Uses, {"a": "a"}), ("BadUses", "a"))
        self.assertEqual(raised(Uses, {"a": ["b"], "b": ["c"]}), ("BadUses", "b"))
        self.assertEqual(raised(first_uses, Uses({"a": []}), "b"), ("NoLibrary", "b"))


if __name__ == "__main__":
    unittest.main()

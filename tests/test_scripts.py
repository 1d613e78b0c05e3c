"""Promise 62, put_in of 67, and the example of 68."""

import random
import unittest

from linklines.objects import Archive, Object
from linklines.programs import linked
from linklines.scripts import Script, laid, laid_program, put_in
from linklines.stores import Store
from tests.script_tools import example_68, plain_taker, random_inputs, random_rules
from tests.tools import any_objects, as_lists, as_tuples, call_alike, raised, spoil

RULE = ("text", "*", ".t*", "line")


def plain_laid(rules, line):
    """What is laid, or the first index that no rule takes."""
    takers = [plain_taker(rules, *pair) for pair in line]
    if None in takers:
        return takers.index(None)
    told = {}
    for out in [rule[0] for rule in rules]:
        row = []
        for number, rule in enumerate(rules):
            if rule[0] == out:
                mine = [index for index in range(len(line)) if takers[index] == number]
                row += mine if rule[3] == "line" else sorted(mine, key=lambda index: line[index][1])
        if row:
            told[out] = tuple(row)
    return list(told.items())


class TestScripts(unittest.TestCase):
    def test_what_is_told(self):
        rules = [list(RULE), ("rest", "a?", "*", "name")]
        script = Script(rules)
        self.assertEqual(script.rules(), [RULE, ("rest", "a?", "*", "name")])
        rules[0][0] = "z"
        rules.pop()
        spoil(script.rules())
        self.assertEqual(script, Script(rules=(RULE, ("rest", "a?", "*", "name"))))
        for other in [Script([("rest", "a?", "*", "name"), RULE]), Script([RULE]), Script([RULE, ("rest", "a?", "*", "line")]),
                      Script([RULE, ("rest", "a?", "**", "name")]), *any_objects()]:
            self.assertFalse(script == other)

    def test_takers(self):
        seen = {}
        for seed in range(150):
            dice = random.Random(seed)
            rules = random_rules(dice)
            script = Script(rules)
            for file, name in random_inputs(dice):
                told = script.taker(file, name)
                self.assertEqual(told, plain_taker(rules, file, name))
                seen[told] = seen.get(told, 0) + 1
        self.assertGreater(min(seen.values()), 5, seen)
        self.assertEqual(example_68().taker(file="crta", name=".text."), 1)

    def test_what_is_laid(self):
        seen = {"untaken": 0, "laid": 0, "mixed": 0}
        for seed in range(700):
            dice = random.Random(seed)
            rules = random_rules(dice, 5) + [("z", "*", "*", "name")][:dice.choice([0, 1, 1])]
            line = random_inputs(dice)
            wanted = plain_laid(rules, line)
            if isinstance(wanted, int):
                self.assertEqual(raised(laid, Script(rules), line), ("Untaken", wanted))
                seen["untaken"] += 1
            else:
                self.assertEqual(laid(Script(rules), line), wanted)
                seen["laid"] += 1
                seen["mixed"] += any(list(row) != sorted(row) for _, row in wanted)
        self.assertGreater(min(seen.values()), 50, seen)

    def test_the_example(self):
        line = [("b", ".ro"), ("b", ".text"), ("a", ".data")]
        self.assertEqual(call_alike(self, laid, example_68(), line), [("text", (1,)), ("data", (2, 0))])
        self.assertEqual(laid(script=example_68(), line=[]), [])

    def test_orders_within(self):
        script = Script([("y", "b", "*", "line"), ("x", "a", "*", "name"), ("y", "c", "*", "name")])
        line = [("c", "b"), ("a", "b"), ("a", "a"), ("c", "a"), ("b", "b"), ("a", "b"), ("b", "a"), ("c", "b")]
        self.assertEqual(laid(script, line), [("y", (4, 6, 3, 0, 7)), ("x", (2, 1, 5))])
        # an out is where any rule first tells it, though another rule takes the inputs
        script = Script([("y", "z", "*", "line"), ("x", "*", "a", "line"), ("y", "*", "*", "line")])
        self.assertEqual(laid(script, [("a", "a"), ("a", "b")]), [("y", (1,)), ("x", (0,))])
        # names as strings compare
        script = Script([("x", "*", "*", "name")])
        self.assertEqual(laid(script, [("a", "_"), ("a", "a"), ("a", "9"), ("a", "."), ("a", "aa")]), [("x", (3, 2, 0, 1, 4))])
        self.assertEqual(laid(script, [("q", "a")] * 60), [("x", tuple(range(60)))])

    def test_programs(self):
        part = (".text", "rx", 1, 4)
        store = Store({"m": Object({"main": ("strong", None)}, ["f"], [], [(".data", "rw", 1, 2), part]),
                       "ar": Archive([("k", Object({"f": ("strong", None)}, [], [], [(".data", "r", 1, []), part]))])})
        program = linked(store, ["m", "ar"])
        script = Script([("t", "ar", ".text", "line"), ("t", "*", ".text", "line"), ("d", "*", "*", "name")])
        self.assertEqual(laid_program(script, program), [("t", (3, 1)), ("d", (0, 2))])
        self.assertEqual(laid_program(script=script, program=program), [("t", (3, 1)), ("d", (0, 2))])
        self.assertEqual(raised(laid_program, Script([("t", "m", "*", "line")]), program), ("Untaken", 2))
        self.assertEqual(raised(laid_program, Script([("t", "*", "*t", "line")]), program), ("Untaken", 0))
        self.assertEqual(laid_program(script, linked(Store({}), [])), [])

    def test_rules_put_in(self):
        script = Script([RULE, ("rest", "*", "*", "line")])
        more = ("new", "a", "b", "name")
        for number, wanted in ((0, [more, *script.rules()]), (1, [RULE, more, script.rules()[1]]),
                               (2, [*script.rules(), more])):
            for rule in (more, list(more)):
                self.assertEqual(put_in(script, number, rule), Script(wanted))
        self.assertEqual(call_alike(self, put_in, script, 1, RULE), Script([RULE, RULE, script.rules()[1]]))
        self.assertEqual(put_in(script=script, number=0, rule=more).rules()[0], more)
        self.assertEqual(script, Script([RULE, ("rest", "*", "*", "line")]))


class TestErrors(unittest.TestCase):
    def bad_rules(self):
        for thing in any_objects():
            yield thing
            for at in range(4):
                if not (isinstance(thing, str) and thing == "a" * 9 and at < 3):
                    yield (*RULE[:at], thing, *RULE[at + 1:])
        yield from [RULE[:3], (*RULE, "line"), ("text", "[", ".t", "line"), ("text", "*", "", "line"), ("t*", "*", "*", "line"),
                    ("a" * 13, "*", "*", "line"), ("text", "*", "*", "names"), ("text", "a" * 11, "*", "line")]

    def test_bad_rules(self):
        for thing in any_objects():
            if not isinstance(thing, (list, tuple)) or not thing:
                self.assertEqual(raised(Script, thing), ("BadRule", 0))
        for thing in self.bad_rules():
            self.assertEqual(raised(Script, [RULE, thing, 0]), ("BadRule", 1), thing)
            for number in (0, 1):
                self.assertEqual(raised(put_in, Script([RULE]), number, thing), ("BadRule", 0))
        self.assertIsNone(raised(Script, [RULE, ("a" * 12, "a" * 10, "b", "name"), as_lists(RULE)]))

    def test_no_rule(self):
        script = Script([RULE])
        for thing in [*any_objects(), 2, -1]:
            if thing not in (0, 1) or isinstance(thing, bool):
                self.assertEqual(raised(put_in, script, thing, None), ("NoRule", thing))

    def test_bad_inputs(self):
        script = example_68()
        good = ("a", ".text")
        for thing in [*any_objects(), "A", "a.b"]:
            if not isinstance(thing, str) or thing != "a" * 9:
                self.assertEqual(raised(script.taker, "a", thing) if thing != "a.b" else ("BadInput", ("a", thing)),
                                 ("BadInput", ("a", thing)))
            self.assertEqual(raised(script.taker, thing, "a"), ("BadInput", (thing, "a")))
            if not isinstance(thing, (list, tuple)):
                self.assertEqual(raised(laid, script, thing), ("BadInputs", 0))
            self.assertEqual(raised(laid, script, [good, thing, 0]), ("BadInputs", 1))
            self.assertEqual(raised(laid, script, [good, (thing, "a"), 0]), ("BadInputs", 1))
        for thing in [("a",), ("a", "a", "a"), "ab", ("a", "a" * 13), ("a" * 9, "a"), ("", "a"), ("a", "")]:
            self.assertEqual(raised(laid, script, [good, good, thing]), ("BadInputs", 2))
        # bad ones come ahead of untaken ones
        only = Script([("t", "a", "a", "line")])
        self.assertEqual(raised(laid, only, [("a", "a"), ("b", "a"), 0]), ("BadInputs", 2))
        self.assertEqual(raised(laid, only, as_tuples([("a", "a"), ("b", "a"), ("a", "b")])), ("Untaken", 1))


if __name__ == "__main__":
    unittest.main()

"""Promises 65 to 67 and the example of 68: scripts alike, the first line that parts two, what can be left out, put in."""

import itertools
import random
import unittest

from linklines.layings import (are_alike, as_others, bars_out, can_be_left_out, first_elsewhere, left_out, parting,
                               places_for, takes_from)
from linklines.pools import Pool
from linklines.scripts import Script, laid, put_in
from tests.script_tools import example_68, plain_taker, random_pattern
from tests.test_scripts import plain_laid
from tests.tools import any_objects, call_alike, raised


def words_of(signs, most):
    return ["".join(row) for many in range(1, most + 1) for row in itertools.product(signs, repeat=many)]


# one sign that no pattern tells stands for all such in files; names are compared, too: there are some on both sides
INPUTS = sorted([(file, name) for file in words_of("ab", 2) for name in words_of(".0ab", 2)],
                key=lambda pair: (len(pair[0]) + len(pair[1]), pair))


def signs_of(line):
    return (len(line), sum(len(file) + len(name) for file, name in line), line)


def is_short(line):
    return all(len(part) <= 2 for pair in line for part in pair)


def how_laid(rules, takers, line):
    """What plain_laid tells of lines of one or two inputs, by takers that are known."""
    taken = [takers[pair] for pair in line]
    if None in taken:
        return taken.index(None)
    if len(line) == 1:
        return [(rules[taken[0]][0], (0,))]
    outs = [rule[0] for rule in rules]
    one, other = taken
    if outs[one] != outs[other]:
        pairs = [(outs.index(outs[one]), outs[one], (0,)), (outs.index(outs[other]), outs[other], (1,))]
        return [pair[1:] for pair in sorted(pairs)]
    places = [(one, 0), (other, 1)]
    if one == other and rules[one][3] == "name":
        places = [(line[0][1], 0), (line[1][1], 1)]
    return [(outs[one], tuple(place for _, place in sorted(places)))]


def first_parting(one, other):
    """The first line of short inputs that two lists of rules lay otherwise."""
    takers = [{pair: plain_taker(rules, *pair) for pair in INPUTS} for rules in (one, other)]
    for pair in INPUTS:
        if how_laid(one, takers[0], [pair]) != how_laid(other, takers[1], [pair]):
            return [pair]
    best = None
    firsts = {}
    for pair in INPUTS:
        firsts.setdefault((takers[0][pair], takers[1][pair]), []).append(pair)
    for line in itertools.product(INPUTS, INPUTS):
        if how_laid(one, takers[0], line) != how_laid(other, takers[1], line):
            if best is None or signs_of(list(line)) < signs_of(best):
                best = list(line)
    return best


def random_rule(dice):
    return (dice.choice("xy"), random_pattern(dice, "a", 3), random_pattern(dice, "a", 3), dice.choice(["line", "name"]))


def random_scripts(seed, most=4):
    """Rules of two scripts that are nearly the same."""
    dice = random.Random(seed)
    one = [random_rule(dice) for _ in range(dice.randint(1, most))]
    if dice.random() < 0.7:
        one.append(("z", "*", "*", dice.choice(["line", "name"])))
    other = list(one)
    for _ in range(dice.choice([1, 1, 2])):
        at = dice.randrange(len(other))
        what = dice.randint(0, 4)
        if what == 0:
            other[at] = (*other[at][:3], "name" if other[at][3] == "line" else "line")
        elif what == 1:
            dice.shuffle(other)
        elif what == 2:
            other.insert(dice.randint(0, len(other)), dice.choice(other))
        elif what == 3 and len(other) > 1:
            del other[at]
        else:
            other[at] = (dice.choice("xyz"), *other[at][1:])
    return one, other


class TestAlike(unittest.TestCase):
    def test_first_lines_among_short_inputs(self):
        seen = {0: 0, 1: 0, 2: 0}
        for seed in range(110):
            one, other = random_scripts(seed)
            told = parting(Script(one), Script(other))
            wanted = first_parting(one, other)
            self.assertIs(are_alike(Script(one), Script(other)), told is None)
            if told is None:
                self.assertIsNone(wanted)
            else:
                self.assertNotEqual(plain_laid(one, told), plain_laid(other, told))
                if is_short(told):
                    self.assertEqual(told, wanted)
                elif wanted is not None:
                    self.assertLess(signs_of(told), signs_of(wanted))
            seen[len(told or [])] += 1
        self.assertGreater(min(seen.values()), 10, seen)

    def test_outs_alone(self):
        seen = {"same": 0, "apart": 0}
        for seed in range(150):
            one, other = random_scripts(seed)
            told = first_elsewhere(Script(one), Script(other))
            self.assertIs(as_others(Script(one), Script(other)), told is None)
            outs = [{pair: rules[number][0] if number is not None else None for pair in INPUTS
                     for number in [plain_taker(rules, *pair)]} for rules in (one, other)]
            short = [pair for pair in INPUTS if outs[0][pair] != outs[1][pair]]
            if told is not None and is_short([told]):
                self.assertEqual(told, short[0])
            elif short:
                self.assertLess(signs_of([told]), signs_of([short[0]]))
            seen["same" if told is None else "apart"] += 1
        self.assertGreater(min(seen.values()), 20, seen)

    def test_lines_of_three_hang_on_pairs(self):
        dice = random.Random(5)
        alike = 0
        for seed in range(250):
            one, other = random_scripts(seed, 3)
            if are_alike(Script(one), Script(other)):
                alike += 1
                for _ in range(30):
                    line = dice.choices(INPUTS, k=dice.randint(3, 6))
                    self.assertEqual(plain_laid(one, line), plain_laid(other, line))
        self.assertGreater(alike, 30)

    def test_by_name_and_by_line(self):
        def both(name):
            return Script([("x", "*", name, "name")]), Script([("x", "*", name, "line")])
        self.assertIs(are_alike(*both("abc")), True)
        self.assertIs(are_alike(*both("a?")), False)
        self.assertEqual(parting(*both("a?")), [("a", "a0"), ("a", "a.")])
        self.assertEqual(parting(*both("[ab]")), [("a", "b"), ("a", "a")])
        self.assertEqual(parting(*both("a*")), [("a", "a."), ("a", "a")])
        self.assertEqual(parting(*both("?a*")), [("a", "0a"), ("a", ".a")])

    def test_rules_of_one_out_behind_one_another(self):
        two = Script([("x", "a", "*", "line"), ("x", "*", "*", "line")])
        one = Script([("x", "*", "*", "line")])
        self.assertEqual(parting(two, one), [("b", "."), ("a", ".")])
        # what the second one wins stands by its names: equal ones as they stand, lesser ones ahead
        named = Script([("x", "*", "*", "name")])
        halves = Script([("x", "*", "a", "line"), ("x", "*", "b", "line")])
        self.assertIsNone(parting(halves, Script([("x", "*", "[ab]", "name")])))
        self.assertEqual(parting(Script([("x", "*", "b", "line"), ("x", "*", "a", "line")]),
                                 Script([("x", "*", "[ab]", "name")])), [("a", "a"), ("a", "b")])
        self.assertEqual(parting(named, one), [("a", "0"), ("a", ".")])
        # where equal names part: the script that says name leaves them as they stand
        twice = Script([("x", "b", "a", "line"), ("x", "a", "a", "line")])
        self.assertEqual(parting(twice, Script([("x", "[ab]", "a", "name")])), [("a", "a"), ("b", "a")])

    def test_names_of_unlike_rules(self):
        ahead = [("y", "a", "m", "line"), ("y", "b", "z", "line")]
        named = Script([*ahead, ("x", "[ab]", "[mz]", "name")])
        # a greater name ahead of a lesser one, of a lesser file
        self.assertEqual(parting(named, Script([*ahead, ("x", "a", "z", "line"), ("x", "b", "m", "line")])),
                         [("a", "z"), ("b", "m")])
        self.assertEqual(parting(named, Script([*ahead, ("x", "b", "m", "line"), ("x", "a", "z", "line")])), None)
        # equal names alone part these: they stay as they stand where the rule says name
        one = Script([("y", "a", "z", "line"), ("x", "[ab]", "[mz]", "name")])
        other = Script([("y", "a", "z", "line"), ("x", "a", "m", "line"), ("x", "b", "[mz]", "name")])
        self.assertEqual(parting(one, other), [("b", "m"), ("a", "m")])
        self.assertIs(are_alike(one, other), False)
        self.assertIs(are_alike(other, one), False)

    def test_the_fewest_signs_of_several_pairs(self):
        rules = [("x", "a", "aaaa", "line"), ("y", "b", "*", "line"), ("z", "c", "*", "line")]
        self.assertEqual(parting(Script(rules), Script(rules[::-1])), [("b", "."), ("c", ".")])
        self.assertEqual(parting(Script(rules), Script([rules[1], rules[0], rules[2]])), [("a", "aaaa"), ("b", ".")])

    def test_least_and_greatest_names(self):
        def patterns(dice):
            return "".join(dice.choice(["a", "m", "?", "[am]", "[.z]"]) for _ in range(dice.randint(1, 2)))
        names = words_of(sorted("abcdefghijklmnopqrstuvwxyz0123456789._"), 2)
        for seed in range(12):
            dice = random.Random(seed)
            rules = [("x", dice.choice(["a", "?", "[ab]"]), patterns(dice), "line") for _ in range(3)]
            spans = Pool(rules).spans_shared()
            found = {}
            for file in "abc":
                for name in names:
                    lot = sum(1 << at for at, rule in enumerate(rules) if plain_taker([rule], file, name) == 0)
                    low, high = found.get(lot, (name, name))
                    found[lot] = (min(low, name), max(high, name))
            for lot, span in spans.items():
                if lot:
                    self.assertEqual(span, found[lot])

    def test_the_order_of_outs(self):
        one = Script([("x", "a", "*", "line"), ("y", "b", "*", "line")])
        other = Script([("y", "b", "*", "line"), ("x", "a", "*", "line")])
        self.assertEqual(parting(one, other), [("a", "."), ("b", ".")])
        self.assertIs(as_others(one, other), True)
        # an out that is first told by a rule that takes nothing
        early = Script([("y", "?????????", "*", "line"), *one.rules()])
        self.assertEqual(parting(one, early), [("a", "."), ("b", ".")])
        self.assertIsNone(parting(one, Script([("z", "?????????", "*", "line"), *one.rules()])))

    def test_untaken_ones(self):
        one = Script([("x", "a", "a", "line")])
        self.assertEqual(parting(one, Script([("x", "a", "?", "line")])), [("a", ".")])
        self.assertEqual(first_elsewhere(one, Script([("x", "?", "a", "line")])), ("b", "a"))
        self.assertIsNone(parting(one, Script([("x", "a", "a", "name"), ("y", "a", "a", "line")])))
        nothing = Script([("x", "?????????", "*", "line")])
        self.assertIs(are_alike(nothing, Script([("y", "*", "????????" + "????", "name")][:0] or
                                                [("y", "?????????*", "*", "name")])), True)
        self.assertEqual(parting(nothing, one), [("a", "a")])

    def test_names_part_late(self):
        one = Script([("x", "*", "aaaaaaaaa*", "name")])
        other = Script([("x", "*", "aaaaaaaaa*", "line")])
        self.assertEqual(parting(one, other), [("a", "aaaaaaaaa."), ("a", "aaaaaaaaa")])
        one = Script([("x", "b", "a?b", "name"), ("x", "*", "a?b", "name")])
        other = Script([("x", "b", "a?b", "name"), ("x", "*", "a?b", "line")])
        self.assertEqual(parting(one, other), [("a", "a0b"), ("a", "a.b")])
        # the fewest signs go ahead of the first file
        one = Script([("x", "aa", "?", "line"), ("x", "b", "???", "name"), ("x", "aa", "[cd]", "name")])
        other = Script([("x", "aa", "?", "name"), ("x", "b", "???", "line"), ("x", "aa", "[cd]", "name")])
        self.assertEqual(parting(one, other), [("aa", "0"), ("aa", ".")])


class TestLeftOut(unittest.TestCase):
    def test_all_lots(self):
        more = 0
        for seed in range(60):
            rules, _ = random_scripts(seed, 3)
            rules.insert(random.Random(seed).randint(0, len(rules)), rules[0])
            script = Script(rules)
            fitting = []
            for many in range(len(rules)):
                for lot in itertools.combinations(range(len(rules)), many):
                    left = Script([rule for number, rule in enumerate(rules) if number not in lot])
                    self.assertIs(can_be_left_out(script, lot), are_alike(script, left))
                    self.assertEqual(bars_out(script, lot[::-1]), parting(script, left))
                    if are_alike(script, left):
                        fitting.append(lot)
            greatest = [lot for lot in fitting if not any(set(lot) < set(other) for other in fitting)]
            self.assertEqual(left_out(script), sorted(greatest))
            more += len(greatest) > 1
            every = list(range(len(rules)))
            self.assertIs(can_be_left_out(script, every), False)
            self.assertEqual(bars_out(script, every), first_line_taken(rules))
        self.assertGreater(more, 2)

    def test_one_by_one_from_the_last_on(self):
        several = 0
        for seed in range(60):
            rules, _ = random_scripts(seed, 3)
            rules += [rules[0], rules[-1]]
            script = Script(rules)
            for lot in left_out(script):
                left = list(rules)
                for number in reversed(lot):
                    del left[number]
                    self.assertIs(are_alike(script, Script(left)), True)
                several += len(lot) > 2
        self.assertGreater(several, 5)

    def test_what_wins_is_left_out_if_rules_behind_lay_it_so(self):
        script = Script([("x", "a", "*", "line"), ("x", "*", "*", "line")])
        # what the first one wins stands ahead of all else, so it stays
        self.assertEqual(left_out(script), [()])
        self.assertEqual(left_out(Script([("x", "a", "b", "line"), ("x", "[a]", "[b]", "line")])), [(0,), (1,)])
        self.assertEqual(left_out(Script([("x", "a", "b", "name"), ("y", "c", "*", "line"), ("x", "a", "[bc]", "line")])), [()])
        self.assertEqual(left_out(Script([("x", "a", "b", "name"), ("x", "a", "[bc]", "name")])), [(0,)])

    def test_each_but_not_both(self):
        script = Script([("x", "a", "b", "line"), ("x", "a", "b", "line")])
        self.assertEqual(call_alike(self, left_out, script), [(0,), (1,)])
        self.assertIs(can_be_left_out(script, [0]), True)
        self.assertIs(call_alike(self, can_be_left_out, script, [0, 1]), False)
        self.assertEqual(call_alike(self, bars_out, script, [1, 0]), [("a", "b")])
        self.assertIsNone(call_alike(self, bars_out, script, []))
        self.assertIs(can_be_left_out(script=script, numbers=()), True)
        self.assertIsNone(bars_out(script=script, numbers=[1]))

    def test_not_in_any_order(self):
        # together the last two can go; the first of them alone cannot
        script = Script([("x", "*", "*", "line"), ("y", "a", "*", "line"), ("x", "*", "*", "name")])
        self.assertEqual(left_out(script), [(1, 2)])
        chained = Script([("x", "a", "*", "line"), ("x", "*", "*", "line"), ("y", "*", "*", "line")])
        self.assertEqual(left_out(chained), [(2,)])

    def test_where_nothing_is_taken(self):
        script = Script([("x", "?????????", "*", "line"), ("y", "a?????????", "*", "line")])
        self.assertIs(can_be_left_out(script, [0, 1]), False)
        self.assertIsNone(bars_out(script, [0, 1]))
        self.assertEqual(left_out(script), [(0,), (1,)])
        self.assertEqual(left_out(Script([("x", "?????????", "*", "line")])), [()])

    def test_bad_rules(self):
        script = example_68()
        for function in (can_be_left_out, bars_out):
            for thing in any_objects():
                if not isinstance(thing, (list, tuple)):
                    self.assertEqual(raised(function, script, thing), ("BadRules", 0))
                if thing not in (0, 1) or isinstance(thing, bool):
                    self.assertEqual(raised(function, script, [4, thing, 9]), ("BadRules", 1))
            self.assertEqual(raised(function, script, [0, 1, 0, 1]), ("BadRules", 2))
            self.assertEqual(raised(function, script, [3, 5]), ("BadRules", 1))
            self.assertEqual(raised(function, script, [-1]), ("BadRules", 0))


def first_line_taken(rules):
    """The first input, as a line, that some rule takes; short ones are enough here."""
    for pair in INPUTS:
        if plain_taker(rules, *pair) is not None:
            return [pair]
    return bars_out(Script(rules), list(range(len(rules))))


class TestPutIn(unittest.TestCase):
    def test_places(self):
        seen = {"none": 0, "all": 0, "some": 0}
        for seed in range(80):
            dice = random.Random(seed)
            rules = [random_rule(dice) for _ in range(dice.randint(1, 3))] + [("z", "*", "*", "line")][:dice.randint(0, 1)]
            rule = dice.choice([random_rule(dice), random_rule(dice), dice.choice(rules)])
            script = Script(rules)
            told = places_for(script, rule)
            wanted = [number for number in range(len(rules) + 1) if are_alike(script, put_in(script, number, rule))]
            self.assertEqual(told, wanted)
            seen["none" if not told else "all" if len(told) == len(rules) + 1 else "some"] += 1
        self.assertGreater(min(seen.values()), 5, seen)

    def test_takes(self):
        inputs = [(file, name) for file in words_of("ab", 4) for name in words_of(".a", 4)]
        taking = 0
        for seed in range(40):
            dice = random.Random(seed)
            rules = [random_rule(dice) for _ in range(dice.randint(1, 4))]
            rule = random_rule(dice)
            script = Script(rules)
            before = {pair: script.taker(*pair) for pair in inputs}
            quiet = False
            for number in range(len(rules) + 1):
                after = put_in(script, number, rule)
                losers = {before[pair] for pair in inputs if after.taker(*pair) == number and before[pair] is not None}
                told = takes_from(script, number, rule)
                self.assertEqual(told, sorted(losers))
                self.assertFalse(quiet and told)
                quiet = quiet or not any(after.taker(*pair) == number for pair in inputs)
                taking += len(told) > 1
        self.assertGreater(taking, 10)

    def test_calls(self):
        script = example_68()
        rule = ("text", "crt?", ".text*", "line")
        self.assertEqual(call_alike(self, places_for, script, rule), [1, 2, 3, 4, 5])
        self.assertEqual(call_alike(self, takes_from, script, 0, rule), [0, 1])
        self.assertEqual(takes_from(script=script, number=2, rule=rule), [])
        self.assertEqual(places_for(script=script, rule=("new", "*", "?", "line")), [5])
        self.assertEqual(script, example_68())

    def test_errors(self):
        script = example_68()
        for thing in [*any_objects(), ("x", "*", "*"), ("x", "[", "*", "line")]:
            self.assertEqual(raised(places_for, script, thing), ("BadRule", 0))
            self.assertEqual(raised(takes_from, script, 5, thing), ("BadRule", 0))
            if thing not in (0, 1) or isinstance(thing, bool):
                self.assertEqual(raised(takes_from, script, thing, None), ("NoRule", thing))
        self.assertEqual(raised(takes_from, script, 6, ("x", "*", "*", "line")), ("NoRule", 6))
        self.assertEqual(raised(takes_from, script, -1, None), ("NoRule", -1))


class TestExample(unittest.TestCase):
    def test_the_example(self):
        script = example_68()
        self.assertEqual(call_alike(self, left_out, script), [(3,)])
        lined = put_in(Script([rule for number, rule in enumerate(script.rules()) if number != 2]), 2,
                       (*script.rules()[2][:3], "line"))
        self.assertEqual(call_alike(self, parting, script, lined), [("a", ".r"), ("a", ".d")])
        self.assertIsNone(call_alike(self, first_elsewhere, script, lined))
        self.assertIs(call_alike(self, are_alike, script, lined), False)
        self.assertIs(call_alike(self, as_others, script, lined), True)
        self.assertIsNone(parting(one=script, other=script))
        self.assertIs(are_alike(one=script, other=Script(script.rules())), True)
        self.assertIs(as_others(one=script, other=script), True)
        self.assertIsNone(first_elsewhere(one=script, other=script))
        line = [("a", ".r"), ("a", ".d")]
        self.assertNotEqual(laid(script, line), laid(lined, line))

    def test_at_the_limits(self):
        rules = [("x", "*" + "abcdefg"[at] + "*", "*" + "bcdefgh"[at] + "*", "name" if at % 2 else "line") for at in range(7)]
        script = Script([*rules, ("y", "*", "*", "line")])
        other = Script([*rules[:5], (*rules[5][:3], "line"), rules[6], ("y", "*", "*", "line")])
        self.assertEqual(parting(script, other), [("f", "g"), ("f", ".g")])
        self.assertEqual(left_out(script), [()])
        self.assertEqual(places_for(Script(rules), ("x", "*", "*a*", "name")), [])
        self.assertEqual(len(laid(script, [("a", "b"), ("c", "x")] * 30)), 2)


if __name__ == "__main__":
    unittest.main()

"""Patterns and scripts at random from given dice, and patterns matched by Python's own."""

import re

from linklines.scripts import Script

SIGNS = "._0123456789abcdefghijklmnopqrstuvwxyz"


def example_68():
    return Script([("text", "*", ".text", "line"), ("text", "crt?", ".text*", "line"), ("data", "*", ".[dr]*", "name"),
                   ("data", "*", ".ro*", "line"), ("rest", "*", "*", "line")])


def is_plainly_matched(pattern, name):
    made = "".join("[" + sign + "]" if sign == "." else "." if sign == "?" else ".*" if sign == "*" else sign
                   for sign in re.findall(r"\[[^]]*\]|.", pattern))
    return re.fullmatch(made, name) is not None


def random_pattern(dice, signs="ab", most=4):
    tokens = [dice.choice([*signs, *signs, "?", "*", "*", "[" + "".join(dice.sample(signs, dice.randint(1, len(signs)))) + "]"])
              for _ in range(dice.randint(1, most))]
    return "".join(tokens)


def random_rules(dice, most=4, signs="ab", outs=("x", "y")):
    return [(dice.choice(outs), random_pattern(dice, signs), random_pattern(dice, signs), dice.choice(["line", "name"]))
            for _ in range(dice.randint(1, most))]


def plain_taker(rules, file, name):
    for number, rule in enumerate(rules):
        if is_plainly_matched(rule[1], file) and is_plainly_matched(rule[2], name):
            return number
    return None


def random_inputs(dice, signs="ab", most=6):
    return [("".join(dice.choices(signs, k=dice.randint(1, 3))), "".join(dice.choices(signs + ".", k=dice.randint(1, 3))))
            for _ in range(dice.randint(0, most))]

"""Scripts: which rule takes an input, and where it is laid."""

from linklines.checks import is_integer_from, is_list, is_row_of, is_section_name, is_word
from linklines.errors import BadInput, BadInputs, BadRule, NoRule, Untaken
from linklines.patterns import Matcher, is_pattern


def is_rule(thing):
    if not is_row_of(4, thing):
        return False
    out, files, names, by = thing
    return is_section_name(out) and is_pattern(files) and is_pattern(names) and by in ("line", "name")


def is_input(thing):
    return is_row_of(2, thing) and is_word(thing[0]) and is_section_name(thing[1])


class Script:
    """Rules, the first of which that matches an input takes it."""

    def __init__(self, rules):
        if not is_list(rules) or len(rules) == 0:
            raise BadRule(0)
        for index, thing in enumerate(rules):
            if not is_rule(thing):
                raise BadRule(index)
        self._rules = [tuple(rule) for rule in rules]
        self._matchers = [(Matcher(rule[1]), Matcher(rule[2])) for rule in self._rules]

    def __eq__(self, other):
        return isinstance(other, Script) and self._rules == other._rules

    def rules(self):
        return list(self._rules)

    def taker(self, file, name):
        if not is_input((file, name)):
            raise BadInput((file, name))
        for number, (files, names) in enumerate(self._matchers):
            if files.does_match(file) and names.does_match(name):
                return number
        return None


def laid(script, line):
    if not is_list(line):
        raise BadInputs(0)
    for index, thing in enumerate(line):
        if not is_input(thing):
            raise BadInputs(index)
    return laid_inputs(script, line)


def laid_inputs(script, line):
    takers = [script.taker(file, name) for file, name in line]
    if None in takers:
        raise Untaken(takers.index(None))
    outs = {rule[0]: [] for rule in script.rules()}
    for number, rule in enumerate(script.rules()):
        taken = [index for index, taker in enumerate(takers) if taker == number]
        if rule[3] == "name":
            taken = [index for _, index in sorted([(line[index][1], index) for index in taken])]
        outs[rule[0]].extend(taken)
    return [(out, tuple(indexes)) for out, indexes in outs.items() if indexes]


def laid_program(script, program):
    return laid_inputs(script, [(who[0], section[0]) for who, _, section in program.sections()])


def check_put_in(script, number, rule):
    if not is_integer_from(0, number) or number > len(script.rules()):
        raise NoRule(number)
    if not is_rule(rule):
        raise BadRule(0)


def put_in(script, number, rule):
    check_put_in(script, number, rule)
    rules = script.rules()
    return Script([*rules[:number], rule, *rules[number:]])

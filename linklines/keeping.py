"""Rules by which sections are kept, and the least lots that keep one or let it go."""

from linklines.checks import first_bad_word, first_not_among, is_integer, is_list, is_row_of, is_word
from linklines.choices import all_lots, least_of_lots
from linklines.errors import BadRoots, BadRule, BadWords, NoBody
from linklines.folding import folded, sheet_folded
from linklines.sheets import Sheet


def is_keeping_rule(thing, known):
    if not is_row_of(2, thing) or first_not_among(thing[0], known) is not None:
        return False
    return thing[1] in known


class Rules:
    """Sections, and rules by which one is kept where all of a lot are."""

    def __init__(self, sections, rules):
        bad = first_bad_word(sections, ())
        if bad is not None:
            raise BadWords(bad)
        if not is_list(rules):
            raise BadRule(0)
        for index, thing in enumerate(rules):
            if not is_keeping_rule(thing, sections):
                raise BadRule(index)
        self._sections = list(sections)
        self._rules = [(tuple(lot), section) for lot, section in rules]

    def __eq__(self, other):
        return isinstance(other, Rules) and self._sections == other._sections and self._rules == other._rules

    def sections(self):
        return list(self._sections)

    def rules(self):
        return list(self._rules)

    def check_roots(self, roots):
        bad = first_not_among(roots, self._sections)
        if bad is not None:
            raise BadRoots(bad)

    def check_section(self, section):
        if not is_word(section) or section not in self._sections:
            raise NoBody(section)

    def told_by(self, roots):
        """The dict from all kept sections, as they come, to the number of the rule that tells each, None of a root."""
        causes = {root: None for root in roots}
        while True:
            many = len(causes)
            for number, (lot, section) in enumerate(self._rules):
                if section not in causes and all([name in causes for name in lot]):
                    causes[section] = number
            if len(causes) == many:
                return causes


def rules_of(sheet):
    seen = {}
    for name, cells in sheet.bodies().items():
        for cell in cells:
            if not is_integer(cell):
                seen[(name, cell[0])] = True
    return Rules(sheet.section_names(), [((one,), other) for one, other in seen])


def kept(rules, roots):
    rules.check_roots(roots)
    return sorted(rules.told_by(roots))


def steps(rules, roots, section):
    rules.check_roots(roots)
    rules.check_section(section)
    causes = rules.told_by(roots)
    if section not in causes:
        return None
    needed = {section: True}
    numbers = []
    # each was told by a rule whose lot was there ahead of it: backwards all that is needed is met behind what needs it
    for name in reversed(list(causes)):
        if name in needed and causes[name] is not None:
            numbers.append(causes[name])
            needed.update({part: True for part in rules.rules()[causes[name]][0]})
    return numbers[::-1]


def check_names(rules, names, section):
    rules.check_roots(names)
    rules.check_section(section)


def keepers(rules, names, section):
    check_names(rules, names, section)
    return least_of_lots([lot for lot in all_lots(names) if section in rules.told_by(lot)])


def blockers(rules, names, section):
    check_names(rules, names, section)
    enough = []
    for lot in all_lots(names):
        if section not in rules.told_by([name for name in names if name not in lot]):
            enough.append(lot)
    return least_of_lots(enough)


def parts_by_order(sheet, apart, roots):
    sheet.check_apart(apart)
    rules = rules_of(sheet)
    rules.check_roots(roots)
    leads = folded(sheet, apart)
    standing = {leads[root]: True for root in roots}
    folded_first = kept(rules_of(sheet_folded(sheet, apart)), list(standing))
    left = kept(rules, roots)
    kept_first = Sheet({name: sheet.body(name) for name in left})
    kept_apart = [name for name in apart if name in left]
    return len(folded_first) != len(sheet_folded(kept_first, kept_apart).bodies())

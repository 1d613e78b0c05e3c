"""Scripts that lay all lines alike, what can be left out of them and what can be put in."""

from linklines.checks import is_integer_from, is_list
from linklines.choices import all_lots, greatest_of_lots
from linklines.errors import BadRule, BadRules
from linklines.likeness import Likeness
from linklines.pools import Pool
from linklines.scripts import check_put_in, is_rule


def likeness_of(one, other):
    rules, further = one.rules(), other.rules()
    many = len(rules)
    return Likeness(Pool([*rules, *further]), list(range(many)), list(range(many, many + len(further))))


def are_alike(one, other):
    likeness = likeness_of(one, other)
    return likeness.first_elsewhere() is None and likeness.are_alike(likeness.pool.spans_shared())


def parting(one, other):
    return likeness_of(one, other).first_line()


def as_others(one, other):
    return first_elsewhere(one, other) is None


def first_elsewhere(one, other):
    return likeness_of(one, other).first_elsewhere()


def check_numbers(script, numbers):
    if not is_list(numbers):
        raise BadRules(0)
    many = len(script.rules())
    seen = {}
    for index, thing in enumerate(numbers):
        if not is_integer_from(0, thing) or thing >= many or thing in seen:
            raise BadRules(index)
        seen[thing] = True


def without(many, numbers):
    return [number for number in range(many) if number not in numbers]


def can_be_left_out(script, numbers):
    check_numbers(script, numbers)
    pool = Pool(script.rules())
    return can_be_spared(pool, pool.spans_shared(), numbers)


def can_be_spared(pool, spans, numbers):
    """Whether some rule is left and all lines are laid by those left as by all."""
    many = len(pool.kept_rules)
    left = without(many, numbers)
    return len(left) > 0 and Likeness(pool, list(range(many)), left).are_alike(spans)


def left_out(script):
    pool = Pool(script.rules())
    spans = pool.spans_shared()
    numbers = list(range(len(pool.kept_rules)))
    return sorted(greatest_of_lots([lot for lot in all_lots(numbers) if can_be_spared(pool, spans, lot)]))


def bars_out(script, numbers):
    check_numbers(script, numbers)
    pool = Pool(script.rules())
    many = len(pool.kept_rules)
    return Likeness(pool, list(range(many)), without(many, numbers)).first_line()


def places_for(script, rule):
    if not is_rule(rule):
        raise BadRule(0)
    rules = script.rules()
    many = len(rules)
    pool = Pool([*rules, rule])
    spans = pool.spans_shared()
    places = []
    for number in range(many + 1):
        order = list(range(number)) + [many] + list(range(number, many))
        if Likeness(pool, list(range(many)), order).are_alike(spans):
            places.append(number)
    return places


def takes_from(script, number, rule):
    check_put_in(script, number, rule)
    rules = script.rules()
    many = len(rules)
    losers = {}
    for lot in Pool([*rules, rule]).first_shared():
        taken = [at for at in range(many) if lot & (1 << at)]
        if lot & (1 << many) and taken and taken[0] >= number:
            losers[taken[0]] = True
    return sorted(losers)

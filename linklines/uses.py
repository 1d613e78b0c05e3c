"""Uses: who is called for the first time begins then."""

from linklines.checks import ascending, is_list, is_word
from linklines.errors import BadUses, NoLibrary


def check_uses(calls):
    if not isinstance(calls, dict):
        raise BadUses(None)
    for word, called in calls.items():
        if not is_word(word) or not is_list(called):
            raise BadUses(word)
        if not all([is_word(name) and name in calls for name in called]):
            raise BadUses(word)


class Uses:
    """What each word's beginning calls, one behind another."""

    def __init__(self, calls):
        check_uses(calls)
        self._calls = {word: tuple(called) for word, called in ascending(calls).items()}

    def __eq__(self, other):
        return isinstance(other, Uses) and self._calls == other._calls

    def calls(self):
        return dict(self._calls)


def first_uses(uses, word):
    calls = uses.calls()
    if not is_word(word) or word not in calls:
        raise NoLibrary(word)
    events = []
    begin(calls, word, {}, events)
    return events


def begin(calls, word, stages, events):
    """Lets a word begin that is unbegun, and behind its first call each one that it calls."""
    events.append(("begins", word))
    stages[word] = "half"
    for called in calls[word]:
        if called not in stages:
            begin(calls, called, stages, events)
        events.append(("meets", word, called, stages[called]))
    stages[word] = "begun"
    events.append(("begun", word))


def half_met(uses):
    for word in uses.calls():
        for event in first_uses(uses, word):
            if event[0] == "meets" and event[3] == "half":
                return (word, event)
    return None

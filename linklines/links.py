"""Links between releases, and why the libraries of a bundle go on together."""

from linklines.checks import is_integer_from, is_list, is_row_of, is_word
from linklines.errors import NoBundle
from linklines.goodness import ground_of
from linklines.journeys import journey_of


def is_link(releases, thing):
    return is_link_on(ground_of(releases), thing)


def is_link_on(ground, thing):
    if not is_row_of(5, thing):
        return False
    library, number, other, further, reason = thing
    for word in (library, other):
        if not is_word(word) or word not in ground.counts:
            return False
    if not ground.is_number(library, number) or not ground.is_number(other, further):
        return False
    if is_row_of(3, reason) and reason[0] == "wants":
        return is_wanted_ahead(ground, thing)
    if is_row_of(3, reason) and reason[0] == "wanted":
        return is_wanted_behind(ground, thing)
    if is_row_of(2, reason) and reason[0] == "dead":
        return is_dead_for(ground, thing)
    return False


def is_wanted_ahead(ground, link):
    library, number, other, further, reason = link
    if ground.is_dead(library, number) or not does_want(ground, library, number, other, reason):
        return False
    return all([at >= further for at in ground.tellers.get((other, reason[1], reason[2]), [])])


def is_wanted_behind(ground, link):
    library, number, other, further, reason = link
    if ground.is_dead(other, further - 1) or not does_want(ground, other, further - 1, library, reason):
        return False
    return all([at < number for at in ground.tellers.get((library, reason[1], reason[2]), [])])


def does_want(ground, library, number, other, reason):
    return (reason[1], reason[2]) in ground.pairs_wanted(library, number, other)


def is_dead_for(ground, link):
    library, number, other, further, reason = link
    word = reason[1]
    if other != library or further != number + 1 or not is_word(word):
        return False
    return word in ground.counts and ground.does_fit_none(library, number, word)


class Reasons:
    """One bundle on the way to a goal, and the states from which links have to lead it on."""

    def __init__(self, releases, state, goal, number):
        journey = journey_of(releases, state, goal)
        if not is_integer_from(0, number) or number >= len(journey.packs):
            raise NoBundle(number)
        self.ground = journey.ground
        self.target = journey.halts[number + 1]
        pack = journey.packs[number]
        self.origins = [{**journey.halts[number], library: change[0] + 1} for library, change in pack.items()]

    def all_links(self):
        """The links that lead on from each of these states, each once."""
        found = []
        for state in self.origins:
            for link in self.ground.lifted(state)[1]:
                if link not in found:
                    found.append(link)
        return found

    def do_lead(self, links):
        return all([self.led(state, links) == self.target for state in self.origins])

    def led(self, state, links):
        """Where links lead from a state."""
        state = dict(state)
        does_lead = True
        while does_lead:
            does_lead = False
            for library, number, other, further, _ in links:
                if state[library] >= number and state[other] < further:
                    state[other] = further
                    does_lead = True
        return state


def why(releases, state, goal, number):
    return Reasons(releases, state, goal, number).all_links()


def is_why(releases, state, goal, number, thing):
    reasons = Reasons(releases, state, goal, number)
    if not is_list(thing) or not all([is_link_on(reasons.ground, link) for link in thing]):
        return False
    return reasons.do_lead(thing)

"""Patterns of names."""

from linklines.checks import SECTION_SIGNS, is_section_name
from linklines.errors import BadName, BadPattern


def tokens_of(thing):
    """The tokens of a pattern, each as the signs that it stands for or as "*"; None for what is no pattern."""
    if not isinstance(thing, str):
        return None
    tokens = []
    at = 0
    while at < len(thing):
        token, at = token_at(thing, at)
        if token == "":
            return None
        tokens.append(token)
    return tokens if 1 <= len(tokens) <= 10 else None


def token_at(text, at):
    """The token that begins at a place, "" for none, and the place behind it."""
    sign = text[at]
    if sign == "*":
        return ("*", at + 1)
    if sign == "?":
        return (SECTION_SIGNS, at + 1)
    if sign != "[":
        return (sign if sign in SECTION_SIGNS else "", at + 1)
    end = text.find("]", at)
    signs = text[at + 1:end] if end > at else ""
    return (signs if are_unlike_signs(signs) else "", end + 1)


def are_unlike_signs(signs):
    return all([sign in SECTION_SIGNS and signs.count(sign) == 1 for sign in signs])


def over_stars(places, stars):
    """Places with those behind stars that stand for no signs."""
    further = places | ((places & stars) << 1)
    while further != places:
        places = further
        further = places | ((places & stars) << 1)
    return places


class Matcher:
    """The tokens of a pattern; PLACES are the bits of the numbers of tokens that can be behind a row of signs."""

    def __init__(self, pattern):
        tokens = tokens_of(pattern)
        self.many = len(tokens)
        self.stars = sum([1 << at for at, token in enumerate(tokens) if token == "*"])
        self.takes = {}
        for sign in SECTION_SIGNS:
            self.takes[sign] = sum([1 << at for at, token in enumerate(tokens) if sign in token])

    def step(self, places, sign):
        return over_stars((places & self.stars) | ((places & self.takes[sign]) << 1), self.stars)

    def is_end(self, places):
        return (places >> self.many) & 1 == 1

    def does_match(self, name):
        places = over_stars(1, self.stars)
        for sign in name:
            places = self.step(places, sign)
        return self.is_end(places)


def is_pattern(thing):
    return tokens_of(thing) is not None


def matches(pattern, name):
    if not is_pattern(pattern):
        raise BadPattern(pattern)
    if not is_section_name(name):
        raise BadName(name)
    return Matcher(pattern).does_match(name)

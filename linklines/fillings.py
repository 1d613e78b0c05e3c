"""All fillings of the holes of a line, and what each of them leads to."""

from linklines.checks import LETTERS
from linklines.choices import all_lots, greatest_of_lots, least_of_lots
from linklines.holes import Hole
from linklines.objects import Archive, Library, Object
from linklines.reading import Card, Reading, what_to_read


def words_of_object(obj):
    return [*obj.names(), *obj.wants(), *obj.asks()]


def words_of(held):
    """The words that a file tells, wants or asks for, or of which a hole has sorts."""
    if isinstance(held, Object):
        return words_of_object(held)
    if isinstance(held, Archive):
        return [word for _, member in held.members() for word in words_of_object(member)]
    if isinstance(held, Library):
        return [*held.tells(), *held.wants(), *held.asks()]
    return list(held.sorts()) if isinstance(held, Hole) else []


def first_word_beyond(words):
    """The first word, by length, then as Python compares, that is none of these."""
    known = {word: True for word in words}
    ways = [""]
    while True:
        ways = [way + sign for way in ways for sign in LETTERS]
        for word in ways:
            if word not in known:
                return word


def few_words(things):
    """The words, ascending, by which all that objects in holes can bring comes."""
    words = {word: True for held in things.values() for word in words_of(held)}
    words[first_word_beyond(words)] = True
    return sorted(words)


def all_faces(hole, words):
    faces = [()]
    for word in words:
        sorts = hole.sorts_of(word)
        faces = [face if sort == "no" else (*face, (word, sort)) for face in faces for sort in sorts]
    return faces


def object_with(face):
    """An object that has a face."""
    names = {}
    for word, sort in face:
        if sort != "wanted":
            names[word] = (sort, 1 if sort == "common" else None)
    return Object(names, [word for word, sort in face if sort == "wanted"])


class Fillings:
    """What each filling of a line leads to; things are those that the line names, also by way of groups."""

    def __init__(self, line, things, word=None):
        self.line = line
        self.word = word
        self.holes = [name for name in sorted(things) if isinstance(things[name], Hole)]
        self.shelf = {}
        self.cards = {}
        words = few_words(things)
        for name, held in things.items():
            if isinstance(held, Hole):
                self.cards[name] = [(face, Card((name, None), object_with(face))) for face in all_faces(held, words)]
            else:
                self.shelf[name] = what_to_read(name, held)
        self.found = []
        self.go_on(0, Reading(self.shelf), {})

    def go_on(self, at, reading, faces):
        """Reads the line from a place on, once for each way to fill the holes that are met."""
        while at < len(self.line) and (self.line[at] not in self.cards or self.line[at] in faces):
            if self.line[at] in self.shelf:
                reading.read(self.line[at])
            at += 1
        if at == len(self.line):
            self.enter(reading, faces)
            return
        for face, card in self.cards[self.line[at]]:
            later = reading.branch()
            later.take(card, None)
            self.go_on(at + 1, later, {**faces, self.line[at]: face})

    def enter(self, reading, faces):
        """Keeps the filling with its verdict, and with the meaning of the word where it links."""
        row = tuple([faces[hole] for hole in self.holes])
        verdict = "twice" if reading.doubled else "missing" if reading.missing_names() else "links"
        meaning = reading.meaning(self.word) if verdict == "links" else None
        self.found.append((sum([len(face) for face in row]), row, verdict, meaning))

    def filling(self, row):
        return {hole: face for hole, face in zip(self.holes, row)}

    def first_verdicts(self):
        firsts = {}
        for many, row, verdict, meaning in self.found:
            if verdict not in firsts or (many, row) < firsts[verdict]:
                firsts[verdict] = (many, row)
        return {verdict: self.filling(firsts[verdict][1]) for verdict in sorted(firsts)}

    def first_meanings(self):
        firsts = {}
        for many, row, verdict, meaning in self.found:
            if verdict == "links" and (meaning not in firsts or (many, row) < firsts[meaning]):
                firsts[meaning] = (many, row)
        order = sorted([(first, meaning) for meaning, first in firsts.items()])
        return [(meaning, self.filling(first[1])) for first, meaning in order]

    def does_decide(self, lot):
        """Whether all fillings that are alike in the holes of a lot have one verdict."""
        places = [at for at, hole in enumerate(self.holes) if hole in lot]
        told = {}
        for _, row, verdict, meaning in self.found:
            if told.setdefault(tuple([row[at] for at in places]), verdict) != verdict:
                return False
        return True

    def least_deciding(self):
        return least_of_lots([lot for lot in all_lots(self.holes) if self.does_decide(lot)])

    def greatest_open(self):
        return greatest_of_lots([lot for lot in all_lots(self.holes) if not self.does_decide(lot)])

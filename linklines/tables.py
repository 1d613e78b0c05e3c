"""All stands of a store, and what leads from one to another."""

from linklines.reading import Reading, shelf_of


class Table:
    """Stands by number: first lines, outcomes, for each file the number to which it leads and who is taken then."""

    def __init__(self, store):
        self.file_names = store.files()
        self.first_lines = []
        self.all_stands = []
        self.all_outcomes = []
        self.all_ways = []
        self.all_comers = []
        self.number_of = {}
        self.shelf = shelf_of(store)
        readings = [Reading(self.shelf)]
        self.enter(readings[0], ())
        at = 0
        while at < len(readings):
            for name in self.file_names:
                self.follow(readings, at, name)
            at += 1

    def enter(self, reading, line):
        """Gives a number to the stand of a reading."""
        stand = reading.stand()
        self.number_of[stand] = len(self.all_stands)
        self.first_lines.append(line)
        self.all_stands.append(stand)
        self.all_outcomes.append(reading.outcome())
        self.all_ways.append({})
        self.all_comers.append({})

    def all_cards(self):
        """The dict from all who can be taken to what is known of them."""
        found = {}
        for sort, held in self.shelf.values():
            cards = {"object": [held], "archive": held}.get(sort, [])
            found.update({card.who: card for card in cards})
        return found

    def follow(self, readings, at, name):
        reading = readings[at].branch()
        many = len(reading.taken_cards)
        reading.read(name)
        self.all_comers[at][name] = list(reading.taken_cards)[many:]
        stand = reading.stand()
        if stand not in self.number_of:
            self.enter(reading, (*self.first_lines[at], name))
            readings.append(reading)
        self.all_ways[at][name] = self.number_of[stand]

    def behind(self, number, line):
        for name in line:
            number = self.all_ways[number][name]
        return number

    def first_parting(self, one, other, silent=None):
        """The first line that leads two stands to unlike outcomes, None if none does; a silent file leaves the other.

        Pairs are met in the order of choices of the lines that lead to them first.
        """
        pairs = [(one, other)]
        lines = {(one, other): ()}
        at = 0
        while at < len(pairs):
            here, there = pairs[at]
            line = lines[pairs[at]]
            if self.all_outcomes[here] != self.all_outcomes[there]:
                return list(line)
            for name in self.file_names:
                after = (self.all_ways[here][name], there if name == silent else self.all_ways[there][name])
                if after not in lines:
                    lines[after] = (*line, name)
                    pairs.append(after)
            at += 1
        return None


def lots_of(table):
    """For each stand the number of its lot of alike ones, lots counted by their first stands."""
    lots = numbered(table.all_outcomes)
    while True:
        faces = [face_of_stand(table, lots, number) for number in range(len(lots))]
        finer = numbered(faces)
        if finer == lots:
            return lots
        lots = finer


def face_of_stand(table, lots, number):
    return (lots[number], tuple([lots[table.all_ways[number][name]] for name in table.file_names]))


def numbered(things):
    """For each thing the number of those like it, counted as they are first met."""
    numbers = {}
    for thing in things:
        if thing not in numbers:
            numbers[thing] = len(numbers)
    return [numbers[thing] for thing in things]

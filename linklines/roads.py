"""All that rows of deeds lead to, in the order of the first rows that lead there."""

from linklines.scenes import first_scene


class Track:
    """Numbers all that a beginning leads to; whatever it is, it can be copied, does deeds and has a mark."""

    def __init__(self, begin):
        self.halts = [begin]
        self.numbers = {begin.mark(): 0}
        self.known = [{}]

    def step(self, number, deed):
        """What a deed tells there, and the number of what it leads to."""
        halt = self.halts[number].copied()
        told = halt.done(deed)
        mark = halt.mark()
        if mark not in self.numbers:
            self.numbers[mark] = len(self.halts)
            self.halts.append(halt)
            self.known.append({})
        return (told, self.numbers[mark])

    def led(self, number, deed):
        """The same of scenes, each step being done once."""
        known = self.known[number]
        if deed not in known:
            answer = self.halts[number].idle_answer(deed)
            known[deed] = self.step(number, deed) if answer is None else (answer, number)
        return known[deed]


class Roads:
    """The first row to each number of a track; they are found as one goes on from number to number."""

    def __init__(self, begin):
        self.track = Track(begin)
        self.rows = [()]
        self.steps = []

    def next_halt(self):
        """What the next number is, and the first row to it."""
        number = len(self.steps)
        return (self.track.halts[number], self.rows[number])

    def go_on(self):
        """The triples (deed, what it tells, number) from the next number on, whose rows are known then."""
        number = len(self.steps)
        halt = self.track.halts[number]
        found = []
        for deed in halt.deeds():
            told, target = self.track.step(number, deed)
            if target == len(self.rows):
                self.rows.append((*self.rows[number], deed))
            found.append((deed, told, target))
        self.steps.append(found)
        return found

    def is_done(self):
        return len(self.steps) == len(self.rows)

    def go_beyond(self, number):
        """Goes on until it is known where a number leads."""
        while len(self.steps) <= number:
            self.go_on()


def roads_of(world):
    """The roads of a world, as far as they are known; they are kept."""
    if world.roads is None:
        world.roads = Roads(first_scene(world))
    return world.roads


def all_roads(world):
    """The roads of a world, with all that rows lead to."""
    roads = roads_of(world)
    while not roads.is_done():
        roads.go_on()
    return roads


def track_of(world):
    """All that any deeds in a world have led to so far; it is kept."""
    if world.track is None:
        world.track = Track(first_scene(world))
    return world.track

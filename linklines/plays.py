"""What a row of deeds leads to where libraries begin and end: events, and who has begun."""

from linklines.scenes import first_scene


def order_of_needs(world, firsts, newcomers):
    """The newcomers, each behind those of them that it needs, from the first ones on."""
    order = []
    met = {}
    for library in firsts:
        line_up(world, library, newcomers, met, order)
    return order


def line_up(world, library, newcomers, met, order):
    if library in met or library not in newcomers:
        return
    met[library] = True
    for needed in world.needs_of(library):
        line_up(world, needed, newcomers, met, order)
    order.append(library)


def first_play(starts):
    """What is so ahead of any deed, and the events that have led there."""
    world = starts.world()
    play = Play(starts, first_scene(world), {}, [])
    return (play, play.beginning(world.start(), list(world.start_list())))


class Play:
    """A scene, and how those stand who are there: unbegun, half, begun or ended."""

    def __init__(self, starts, scene, stages, begun):
        self.script = starts
        self.scene = scene
        self.stages = stages
        self.begun = begun

    def copied(self):
        return Play(self.script, self.scene.copied(), dict(self.stages), list(self.begun))

    def mark(self):
        return (self.scene.mark(), tuple(self.begun))

    def deeds(self):
        return self.scene.deeds()

    def done(self, deed):
        """Does a deed; tells the list of its events."""
        if deed[0] == "open":
            return self.opening(deed)
        if deed[0] == "close":
            return self.closing(deed)
        answer = self.scene.done(deed)
        return [("deed", deed, self.staged(answer) if deed[0] == "call" else answer)]

    def staged(self, answer):
        """The answer of a call, with how the one stands that it meets."""
        return answer if isinstance(answer, str) else (*answer, self.stages[answer[1]])

    def opening(self, deed):
        present = list(self.scene.homes)
        answer = self.scene.done(deed)
        newcomers = [library for library in self.scene.homes if library not in present]
        return [*self.beginning([deed[1]], newcomers), ("deed", deed, answer)]

    def beginning(self, firsts, newcomers):
        events = []
        self.stages.update({library: "unbegun" for library in newcomers})
        for library in order_of_needs(self.scene.ground, firsts, newcomers):
            events.append(("begins", library))
            self.stages[library] = "half"
            events.extend(self.calls("first", library, self.script.begins()[library]))
            self.stages[library] = "begun"
            self.begun.append(library)
            events.append(("begun", library))
        return events

    def calls(self, word, library, names):
        return [(word, library, name, self.staged(self.scene.calling(library, name))) for name in names]

    def closing(self, deed):
        leavers = self.scene.closing(deed[1])
        if leavers is None:
            return [("deed", deed, "not open")]
        events = []
        ending = [library for library in self.begun[::-1] if library in leavers]
        for library in ending:
            events.append(("ends", library))
            events.extend(self.calls("last", library, self.script.ends()[library]))
            self.stages[library] = "ended"
            events.append(("ended", library))
        self.scene.send_away(leavers)
        self.begun = [library for library in self.begun if library not in leavers]
        return [*events, ("deed", deed, "closed")]

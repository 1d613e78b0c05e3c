"""Processes: what a row of deeds leads to, and the answers of the deeds."""

from linklines.scenes import checked_deeds, first_scene


class Process:
    """What a row of deeds leads to in a world; it does not change when it goes on."""

    def __init__(self, world, row=()):
        deeds = checked_deeds(world, row)
        self._ground = world
        self._scene = first_scene(world)
        self._answers = [self._scene.done(deed) for deed in deeds]

    def __eq__(self, other):
        if not isinstance(other, Process) or self._ground != other._ground:
            return False
        return self._scene.mark() == other._scene.mark()

    def more(self, row):
        deeds = checked_deeds(self._ground, row)
        scene = self._scene.copied()
        answers = [scene.done(deed) for deed in deeds]
        return process_of(scene, [*self._answers, *answers])

    def answers(self):
        return list(self._answers)

    def there(self):
        return [(library, home) for library, home in self._scene.homes.items()]

    def searched(self):
        return list(self._scene.searches)

    def opened(self):
        return {library: self._scene.counts[library] for library in sorted(self._scene.counts)}

    def slots(self):
        return {slot: tie for slot, tie in sorted(self._scene.all_slots())}


def process_of(scene, answers):
    """The process that has come to a scene with these answers; the scene is not changed from here on."""
    process = Process(scene.ground)
    process._scene = scene
    process._answers = answers
    return process

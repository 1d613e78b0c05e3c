"""Courses: rows of deeds with all beginnings and ends that they bring."""

from linklines.plays import first_play
from linklines.processes import process_of
from linklines.scenes import checked_deeds


class Course:
    """What happens along a row of deeds where libraries begin and end; it does not change when it goes on."""

    def __init__(self, starts, row=()):
        deeds = checked_deeds(starts.world(), row)
        self._script = starts
        self._play, self._events = first_play(starts)
        for deed in deeds:
            self._events.extend(self._play.done(deed))

    def events(self):
        return list(self._events)

    def process(self):
        answers = [plain_answer(event[2]) for event in self._events if event[0] == "deed"]
        return process_of(self._play.scene.copied(), answers)

    def more(self, row):
        deeds = checked_deeds(self._script.world(), row)
        course = Course(self._script)
        course._play = self._play.copied()
        course._events = list(self._events)
        for deed in deeds:
            course._events.extend(course._play.done(deed))
        return course


def plain_answer(answer):
    """The answer as a process gives it, without how the one stands that it meets."""
    if isinstance(answer, str) or answer[0] != "to":
        return answer
    return answer[:2]

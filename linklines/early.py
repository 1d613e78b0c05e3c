"""The first rows with early and late calls, and those in which somebody begins ahead of another one."""

from linklines.plays import first_play
from linklines.roads import Roads


def meets(event, hows):
    """Whether an event is a call that meets another library that stands in one of these ways."""
    if event[0] not in ("first", "last") or isinstance(event[3], str):
        return False
    return event[3][1] != event[1] and event[3][2] in hows


def first_row_with(starts, hows):
    """The first row with a call that meets another library that stands in one of these ways."""
    play, events = first_play(starts)
    if any([meets(event, hows) for event in events]):
        return []
    roads = Roads(play)
    while not roads.is_done():
        _, row = roads.next_halt()
        for deed, told, _ in roads.go_on():
            if any([meets(event, hows) for event in told]):
                return [*row, deed]
    return None


def early_row(starts):
    return first_row_with(starts, ("unbegun", "half"))


def late_row(starts):
    return first_row_with(starts, ("ended",))


def begins_too_soon(begun, events, one, other):
    """Whether the other one begins where the one is not begun, those begun being told as they are ahead."""
    begun = list(begun)
    for event in events:
        if event == ("begins", other) and one not in begun:
            return True
        if event[0] == "begun":
            begun.append(event[1])
    return False


def ahead_row(starts, one, other):
    starts.world().check_library(one)
    starts.world().check_library(other)
    play, events = first_play(starts)
    if begins_too_soon([], events, one, other):
        return []
    roads = Roads(play)
    while not roads.is_done():
        halt, row = roads.next_halt()
        for deed, told, _ in roads.go_on():
            if begins_too_soon(halt.begun, told, one, other):
                return [*row, deed]
    return None

"""The first rows with early and late calls, and those in which somebody begins ahead of another one."""

from linklines.plays import first_play
from linklines.roads import Roads


def meets(event, hows):
    """Whether an event is a call that meets another library that stands in one of these ways."""
    if event[0] not in ("first", "last") or isinstance(event[3], str):
        return False
    return event[3][1] != event[1] and event[3][2] in hows


def has_early_call(events):
    return any([meets(event, ("unbegun", "half")) for event in events])


def has_late_call(events):
    return any([meets(event, ("ended",)) for event in events])


def early_row(starts):
    play, events = first_play(starts)
    if has_early_call(events):
        return []
    roads = Roads(play)
    while not roads.is_done():
        row = roads.rows[len(roads.steps)]
        for deed, told, _ in roads.go_on():
            if has_early_call(told):
                return [*row, deed]
    return None


def late_row(starts):
    roads = Roads(first_play(starts)[0])
    while not roads.is_done():
        row = roads.rows[len(roads.steps)]
        for deed, told, _ in roads.go_on():
            if has_late_call(told):
                return [*row, deed]
    return None


def begins_too_soon(begun, events, one, other):
    """Whether the other one begins where the one is not begun, those begun being told as they are ahead."""
    begun = list(begun)
    for event in events:
        if event == ("begins", other) and one not in begun:
            return True
        if event[0] == "begun":
            begun.append(event[1])
    return False


def ahead_row(starts, one, other):
    starts.world().check_library(one)
    starts.world().check_library(other)
    play, events = first_play(starts)
    if begins_too_soon([], events, one, other):
        return []
    roads = Roads(play)
    while not roads.is_done():
        number = len(roads.steps)
        begun = roads.track.halts[number].begun
        for deed, told, _ in roads.go_on():
            if begins_too_soon(begun, told, one, other):
                return [*roads.rows[number], deed]
    return None

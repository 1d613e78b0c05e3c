"""All rows of deeds in a world: how many processes, what slots are bound to, who is gone or stranded."""

from linklines.roads import all_roads, roads_of
from linklines.stayers import is_somebody_stranded


def many_processes(world):
    return len(all_roads(world).rows)


def bindings(world, library, name):
    world.check_slot(library, name)
    if "bindings" not in world.known_answers:
        world.known_answers["bindings"] = all_bindings(all_roads(world))
    firsts = world.known_answers["bindings"].get((library, name), {})
    named = [(other, firsts[other]) for other in sorted([other for other in firsts if other is not None])]
    return [*named, (None, firsts[None])] if None in firsts else named


def all_bindings(roads):
    """For each slot that is bound behind some row the dict from all to whom to the first such row."""
    found = {}
    for scene, row in zip(roads.track.halts, roads.rows):
        for slot, tie in scene.all_slots():
            if tie == "nobody":
                found.setdefault(slot, {}).setdefault(None, row)
            elif tie not in ("free", "gone"):
                found.setdefault(slot, {}).setdefault(tie[1], row)
    return found


def first_halt(world, is_there, what):
    """The first number behind which something is there; it is found once for each world, and kept as what it is."""
    if what not in world.known_answers:
        world.known_answers[what] = first_number(roads_of(world), is_there)
    return world.known_answers[what]


def first_number(roads, is_there):
    number = 0
    while number < len(roads.rows):
        if is_there(roads.track.halts[number]):
            return number
        roads.go_beyond(number)
        number += 1
    return None


def gone_slots(scene):
    return sorted([slot for slot, tie in scene.all_slots() if tie == "gone"])


def gone_row(world):
    number = first_halt(world, gone_slots, "gone")
    if number is None:
        return None
    roads = roads_of(world)
    return [*roads.rows[number], ("call", *gone_slots(roads.track.halts[number])[0])]


def is_left_stranded(scene):
    return not scene.counts and is_somebody_stranded(scene)


def stranded_row(world):
    number = first_halt(world, is_left_stranded, "stranded")
    return None if number is None else list(roads_of(world).rows[number])

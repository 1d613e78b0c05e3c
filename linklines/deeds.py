"""All rows of deeds in a world: how many processes, what slots are bound to, who is gone or stranded."""

from linklines.roads import all_roads, roads_of
from linklines.stayers import is_somebody_stranded


def many_processes(world):
    return len(all_roads(world).rows)


def bindings(world, library, name):
    world.check_slot(library, name)
    if "bindings" not in world.known_answers:
        world.known_answers["bindings"] = all_bindings(all_roads(world))
    firsts = world.known_answers["bindings"].get((library, name), {})
    named = [(other, firsts[other]) for other in sorted([other for other in firsts if other is not None])]
    return [*named, (None, firsts[None])] if None in firsts else named


def all_bindings(roads):
    """For each slot that is bound behind some row the dict from all to whom to the first such row."""
    found = {}
    for scene, row in zip(roads.track.halts, roads.rows):
        for slot, tie in scene.all_slots():
            if tie == "nobody":
                found.setdefault(slot, {}).setdefault(None, row)
            elif tie not in ("free", "gone"):
                found.setdefault(slot, {}).setdefault(tie[1], row)
    return found


def gone_row(world):
    if "gone" not in world.known_answers:
        world.known_answers["gone"] = first_gone(roads_of(world))
    row = world.known_answers["gone"]
    return None if row is None else list(row)


def first_gone(roads):
    number = 0
    while number < len(roads.rows):
        gone = sorted([slot for slot, tie in roads.track.halts[number].all_slots() if tie == "gone"])
        if gone:
            return (*roads.rows[number], ("call", *gone[0]))
        roads.go_beyond(number)
        number += 1
    return None


def stranded_row(world):
    if "stranded" not in world.known_answers:
        world.known_answers["stranded"] = first_stranded(roads_of(world))
    row = world.known_answers["stranded"]
    return None if row is None else list(row)


def first_stranded(roads):
    number = 0
    while number < len(roads.rows):
        scene = roads.track.halts[number]
        if not scene.counts and is_somebody_stranded(scene):
            return roads.rows[number]
        roads.go_beyond(number)
        number += 1
    return None

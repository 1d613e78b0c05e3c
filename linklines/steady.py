"""Slots whose answers hang on when they are called, and worlds in which rows have unlike answers."""

from linklines.errors import UnlikeWorlds
from linklines.roads import all_roads, track_of


def unsteady_rows(world, library, name):
    world.check_slot(library, name)
    key = ("unsteady", library, name)
    if key not in world.known_answers:
        world.known_answers[key] = first_unsteady(all_roads(world), library, name)
    found = world.known_answers[key]
    return None if found is None else (found[0], found[1])


def first_unsteady(roads, library, name):
    answers = [answer_to_come(scene, library, name) for scene in roads.track.halts]
    found = None
    for number, row in enumerate(roads.rows):
        most = None if found is None else len(found[0]) + len(found[1]) - len(row) - 1
        more = first_more(roads, answers, number, most)
        if more is not None:
            found = (row, more)
    return found


def answer_to_come(scene, library, name):
    """The would-be answer of a slot, None where it is not there or not free."""
    return scene.would_be(library, name) if scene.tie_of(library, name) == "free" else None


def first_more(roads, answers, origin, most):
    """The first deeds, most of them at most, that lead to another answer; None if none do."""
    if answers[origin] is None:
        return None
    ways = {origin: ()}
    waiting = [origin]
    while waiting and (most is None or len(ways[waiting[0]]) < most):
        reached = []
        for number in waiting:
            for deed, _, target in roads.steps[number]:
                if target in ways or answers[target] is None:
                    continue
                ways[target] = (*ways[number], deed)
                if answers[target] != answers[origin]:
                    return ways[target]
                reached.append(target)
        waiting = reached
    return None


def check_worlds(one, other):
    if one.names() != other.names():
        raise UnlikeWorlds()
    for library in one.names():
        if one.slots_of(library) != other.slots_of(library):
            raise UnlikeWorlds()


def first_found_apart(one, other, library):
    """The first name for which the groups of a library in two worlds have unlike first tellers, None if none."""
    groups = (one.group_told(library), other.group_told(library))
    told = [name for mate in groups[0] for name in one.told_by(mate)]
    told.extend([name for mate in groups[1] for name in other.told_by(mate)])
    for name in sorted(told):
        if one.first_teller(groups[0], name) != other.first_teller(groups[1], name):
            return name
    return None


def deeds_that_part(one, other):
    """The deeds, ascending, one of which has unlike answers where any has, and those that can lead there."""
    deeds = []
    for library in one.names():
        deeds.extend([("call", library, name) for name in one.slots_of(library)])
        # who is there in one world alone is told apart by any word, the first of all
        deeds.extend([("close", library), ("find", library, "a")])
        word = first_found_apart(one, other, library)
        if word is not None and word != "a":
            deeds.append(("find", library, word))
        if library not in one.start_list() or library not in other.start_list():
            deeds.extend(one.openings(library))
    return sorted(deeds)


def is_opened_enough(scene, deed):
    return deed[0] == "open" and scene.counts.get(deed[1], 0) == 2


def parting_row(one, other):
    check_worlds(one, other)
    if one == other:
        return None
    kept = one.known_answers.get("parting", None)
    if kept is None or kept[0] != other:
        kept = (other, first_parting(one, other))
        one.known_answers["parting"] = kept
    return None if kept[1] is None else list(kept[1])


def first_parting(one, other):
    """The first row with unlike answers in two worlds that are not equal, None if there is none."""
    deeds = deeds_that_part(one, other)
    tracks = (track_of(one), track_of(other))
    rows = {(0, 0): ()}
    waiting = [(0, 0)]
    while waiting:
        reached = []
        for pair in waiting:
            scene = tracks[0].halts[pair[0]]
            for deed in deeds:
                if is_opened_enough(scene, deed):
                    continue
                first, second = tracks[0].led(pair[0], deed), tracks[1].led(pair[1], deed)
                if first[0] != second[0]:
                    return [*rows[pair], deed]
                if (first[1], second[1]) not in rows:
                    rows[(first[1], second[1])] = (*rows[pair], deed)
                    reached.append((first[1], second[1]))
        waiting = reached
    return None

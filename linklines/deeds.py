"""All rows of deeds in a world: how many processes, what slots are bound to, who is gone or stranded."""

from linklines.checks import is_list
from linklines.roads import Roads, all_roads
from linklines.scenes import first_scene
from linklines.stayers import is_somebody_stranded


def many_processes(world):
    return len(all_roads(world).rows)


def bindings(world, library, name):
    world.check_slot(library, name)
    roads = all_roads(world)
    firsts = {}
    unbound = []
    for scene, row in zip(roads.track.halts, roads.rows):
        tie = scene.ties.get((library, name), "free")
        if is_list(tie):
            firsts.setdefault(tie[1], row)
        if tie == "nobody":
            unbound.append((None, row))
    return [*[(other, firsts[other]) for other in sorted(firsts)], *unbound[:1]]


def gone_row(world):
    roads = Roads(first_scene(world))
    while not roads.is_done():
        scene, row = roads.next_halt()
        gone = sorted([slot for slot, tie in scene.ties.items() if tie == "gone"])
        if gone:
            return [*row, ("call", *gone[0])]
        roads.go_on()
    return None


def stranded_row(world):
    roads = Roads(first_scene(world))
    while not roads.is_done():
        scene, row = roads.next_halt()
        if not scene.counts and is_somebody_stranded(scene):
            return list(row)
        roads.go_on()
    return None

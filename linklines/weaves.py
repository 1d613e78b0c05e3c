"""Several rows of deeds, woven into one another in all ways."""

from linklines.checks import is_list
from linklines.errors import BadRows
from linklines.scenes import first_bad_deed, first_scene


def checked_rows(world, rows):
    if not is_list(rows):
        raise BadRows(0)
    for index, row in enumerate(rows):
        if first_bad_deed(world, row) is not None:
            raise BadRows(index)
    return [[tuple(deed) for deed in row] for row in rows]


def with_one_more(turns, number):
    return (*turns[:number], turns[number] + 1, *turns[number + 1:])


def sorted_answers(answers):
    """Strings ahead of tuples, each ascending."""
    texts = sorted([answer for answer in answers if isinstance(answer, str)])
    return tuple([*texts, *sorted([answer for answer in answers if not isinstance(answer, str)])])


def woven(world, rows):
    deeds = checked_rows(world, rows)
    found = [[{} for _ in row] for row in deeds]
    scene = first_scene(world)
    origin = tuple([0 for _ in deeds])
    waiting = {(origin, scene.mark()): scene}
    while waiting:
        reached = {}
        for key, halt in waiting.items():
            for number, done in enumerate(key[0]):
                if done < len(deeds[number]):
                    later = halt.copied()
                    found[number][done][later.done(deeds[number][done])] = True
                    reached[(with_one_more(key[0], number), later.mark())] = later
        waiting = reached
    return [tuple([sorted_answers(answers) for answers in row]) for row in found]


def all_weaves(world, deeds):
    """The dict, ascending, from all weaves to the dicts of the answers, by rows and places in them."""
    waiting = [((), tuple([0 for _ in deeds]), first_scene(world), {})]
    for _ in range(sum([len(row) for row in deeds])):
        reached = []
        for weave, turns, scene, answers in waiting:
            for number, done in enumerate(turns):
                if done < len(deeds[number]):
                    later = scene.copied()
                    answer = later.done(deeds[number][done])
                    told = {**answers, (number, done): answer}
                    reached.append(((*weave, number), with_one_more(turns, number), later, told))
        waiting = reached
    return {halt[0]: halt[3] for halt in waiting}


def later_neighbours(weave):
    """The weaves, ascending, behind this one that differ from it by one exchange of neighbours."""
    found = []
    for at in range(len(weave) - 1):
        if weave[at] < weave[at + 1]:
            found.append((*weave[:at], weave[at + 1], weave[at], *weave[at + 2:]))
    return sorted(found)


def race(world, rows):
    told = all_weaves(world, checked_rows(world, rows))
    for weave, answers in told.items():
        for other in later_neighbours(weave):
            if told[other] != answers:
                return (weave, other)
    return None

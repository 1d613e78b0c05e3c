"""Alike sections of a sheet, and sheets in which one stands for all of a lot."""

from linklines.checks import is_integer, is_list, is_word
from linklines.sheets import Sheet
from linklines.tables import numbered


def face_of_body(cells, lot_of):
    """What has to be equal of sections of one lot, where lots are told by a dict."""
    return tuple([cell if is_integer(cell) else (lot_of[cell[0]], cell[1]) for cell in cells])


def lot_numbers(sheet):
    bodies = sheet.bodies()
    # one lot of all; a lot is parted as long as its sections have unlike faces
    lot_of = {name: 0 for name in bodies}
    while True:
        faces = [(lot_of[name], face_of_body(cells, lot_of)) for name, cells in bodies.items()]
        finer = {name: number for name, number in zip(bodies, numbered(faces))}
        if finer == lot_of:
            return lot_of
        lot_of = finer


def lots(sheet):
    found = {}
    for name, number in lot_numbers(sheet).items():
        found.setdefault(number, []).append(name)
    return [tuple(lot) for lot in found.values()]


def are_lots(sheet, thing):
    if not is_list(thing) or not all([is_list(lot) and len(lot) > 0 for lot in thing]):
        return False
    bodies = sheet.bodies()
    lot_of = {}
    for number, lot in enumerate(thing):
        for name in lot:
            if not is_word(name) or name not in bodies or name in lot_of:
                return False
            lot_of[name] = number
    if len(lot_of) != len(bodies):
        return False
    faces = {name: face_of_body(cells, lot_of) for name, cells in bodies.items()}
    return all([faces[name] == faces[lot[0]] for lot in thing for name in lot])


def first_unlike_cell(one, other):
    """The number of the first unlike cells of two bodies, references to whatever sections being alike; None if none."""
    for number in range(min(len(one), len(other))):
        cell, further = one[number], other[number]
        if is_integer(cell) or is_integer(further):
            if cell != further:
                return number
        elif cell[1] != further[1]:
            return number
    return None if len(one) == len(other) else min(len(one), len(other))


def unlike(sheet, one, other):
    sheet.check_section(one)
    sheet.check_section(other)
    bodies = sheet.bodies()
    rows = {(one, other): ()}
    waiting = [(one, other)]
    while waiting:
        reached = []
        for pair in waiting:
            cells = (bodies[pair[0]], bodies[pair[1]])
            number = first_unlike_cell(cells[0], cells[1])
            if number is not None:
                return [*rows[pair], number]
            for at, cell in enumerate(cells[0]):
                further = (pair[0], pair[1]) if is_integer(cell) else (cell[0], cells[1][at][0])
                if further not in rows:
                    rows[further] = (*rows[pair], at)
                    reached.append(further)
        waiting = reached
    return None


def folded(sheet, apart=()):
    sheet.check_apart(apart)
    number_of = lot_numbers(sheet)
    standing = {}
    for name in [*sorted(apart), *number_of]:
        standing.setdefault(number_of[name], name)
    return {name: name if name in apart else standing[number_of[name]] for name in number_of}


def sheet_folded(sheet, apart=()):
    leads = folded(sheet, apart)
    kept = {name: True for name in leads.values()}
    return Sheet({name: led_cells(cells, leads) for name, cells in sheet.bodies().items() if name in kept})


def led_cells(cells, leads):
    return [cell if is_integer(cell) else (leads[cell[0]], cell[1]) for cell in cells]

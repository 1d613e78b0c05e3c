"""Who can be the first to tell a name, and with which company."""


def stands_ahead(loaded, one, other):
    """Whether one stands in a row, and not behind other."""
    if one not in loaded or one == other:
        return False
    return other not in loaded or loaded.index(one) < loaded.index(other)


def surely_stands_ahead(ground, one, other):
    company = ground.company_needing([other]) if ground.has_holes() else []
    return stands_ahead(ground.loaded_row(company), one, other)


def all_firsts(ground, name, there):
    """Libraries ascending, holes ascending, then None."""
    if not ground.has_holes():
        loaded = ground.loaded_row([])
        if any([library not in loaded for library in there]):
            return []
        return [ground.first_one(loaded, [], name)]
    firsts = [library for library in ground.shelved if is_first_library(ground, name, library)]
    firsts.extend([hole for hole in range(len(ground.promised())) if is_first_hole(ground, name, hole)])
    company = ground.company_needing(there)
    if ground.first_one(ground.loaded_row(company), company, name) is None:
        firsts.append(None)
    return firsts


def is_first_library(ground, name, library):
    if not ground.does_tell(library, name):
        return False
    tellers = [other for other in ground.shelved if ground.does_tell(other, name)]
    return not any([surely_stands_ahead(ground, other, library) for other in tellers])


def is_first_hole(ground, name, hole):
    if name in ground.promised()[hole]:
        return False
    ahead = ground.places[:ground.place_of_hole(hole)]
    return not any([isinstance(thing, str) and ground.does_tell(thing, name) for thing in ahead])


def is_among(firsts, thing):
    """Whether any object is one of the things told: True is no hole, though it equals 1."""
    return not isinstance(thing, bool) and thing in firsts


def company_with_first(ground, name, there, thing):
    """A company with this first one and all of there in the row, None if there is none."""
    if not is_among(all_firsts(ground, name, there), thing):
        return None
    if not ground.has_holes():
        return []
    if not isinstance(thing, str):
        company = ground.company_needing(there)
        if thing is not None:
            company[thing] = ((name,), company[thing][1])
        return company
    return ground.company_needing([thing, *[library for library in there if library != thing]])

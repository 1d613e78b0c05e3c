"""Rows of libraries that are loaded beside a main and its company."""

from linklines.grounds import Ground


def row(store, needs, company):
    ground = Ground(store, needs)
    ground.check_company(company)
    return ground.loaded_row(company)


def bound(store, needs, company):
    ground = Ground(store, needs)
    ground.check_company(company)
    loaded = ground.loaded_row(company)
    told = []
    for library in loaded:
        if isinstance(library, str):
            for name in ground.referred(library):
                own = ground.binds_itself(library, name)
                told.append(((library, name), library if own else ground.first_one(loaded, company, name)))
    return told

"""Who is kept when a library is closed."""

def kept_in(scene):
    """A dict of those that the rule of a scene's world keeps."""
    rule = scene.ground.rule()
    if rule == "loose":
        return loosely_kept(scene)
    return kept_by_reach(scene) if rule == "reached" else kept_by_count(scene)


def does_stay_by_itself(scene, library):
    return library in scene.counts or scene.ground.does_stay(library)


def loosely_kept(scene):
    kept = {library: True for library in scene.ground.start_list()}
    for library in scene.homes:
        if does_stay_by_itself(scene, library):
            kept.update({name: True for name in scene.ground.group_told(library)})
    return kept


def bound_to(scene, library):
    """Those to whom slots of a library are bound."""
    return [tie[1] for tie in scene.ties[library] if isinstance(tie, tuple)]


def kept_by_reach(scene):
    kept = loosely_kept(scene)
    waiting = list(kept)
    while waiting:
        library = waiting.pop()
        for other in bound_to(scene, library):
            further = [name for name in scene.ground.group_told(other) if name not in kept]
            kept.update({name: True for name in further})
            waiting.extend(further)
    return kept


def backed_by(scene, lot):
    """Those that another one of the lot needs, or is bound to."""
    backed = {}
    for library in lot:
        for other in [*scene.ground.needs_of(library), *bound_to(scene, library)]:
            if other != library:
                backed[other] = True
    return backed


def kept_by_count(scene):
    firm = {library: True for library in scene.ground.start_list()}
    firm.update({library: True for library in scene.homes if does_stay_by_itself(scene, library)})
    lot = list(scene.homes)
    backed = backed_by(scene, lot)
    while not all([library in firm or library in backed for library in lot]):
        lot = [library for library in lot if library in firm or library in backed]
        backed = backed_by(scene, lot)
    return {library: True for library in lot}


def is_somebody_stranded(scene):
    kept = kept_by_reach(scene)
    return not all([library in kept for library in scene.homes])

"""Releases of libraries: what each tells and is bound to."""

from linklines.checks import is_integer_from, is_list, is_row_of, is_word
from linklines.errors import BadReleases, NoLibrary, NoRelease


def is_words_row(many, thing):
    return is_row_of(many, thing) and all([is_word(word) for word in thing])


def are_unlike_rows(many, things):
    """Whether things are a list of unlike rows of so many words each."""
    if not is_list(things):
        return False
    seen = {}
    for thing in things:
        if not is_words_row(many, thing) or tuple(thing) in seen:
            return False
        seen[tuple(thing)] = True
    return True


def is_release(thing, name, libraries):
    if not is_row_of(2, thing) or not are_unlike_rows(2, thing[0]) or not are_unlike_rows(3, thing[1]):
        return False
    return all([other != name and other in libraries for other, word, version in thing[1]])


def check_releases(libraries):
    if not isinstance(libraries, dict):
        raise BadReleases(None)
    for name, kept in libraries.items():
        if not is_word(name) or not is_list(kept) or len(kept) == 0:
            raise BadReleases(name)
        if not all([is_release(thing, name, libraries) for thing in kept]):
            raise BadReleases(name)


def sorted_rows(things):
    return sorted([tuple(thing) for thing in things])


class Releases:
    """All releases of all libraries; those of each are numbered from 1 on."""

    def __init__(self, libraries):
        check_releases(libraries)
        self._releases = {}
        for name in sorted(libraries):
            kept = libraries[name]
            self._releases[name] = [(sorted_rows(tells), sorted_rows(wants)) for tells, wants in kept]
        # found once, when it is first asked for: it hangs on the releases alone
        self._faults = []
        self.ground = None

    def __eq__(self, other):
        return isinstance(other, Releases) and self._releases == other._releases

    def libraries(self):
        return {name: len(kept) for name, kept in self._releases.items()}

    def release(self, library, number):
        self.check_library(library)
        self.check_number(library, number)
        tells, wants = self._releases[library][number - 1]
        return (list(tells), list(wants))

    def first_fault(self):
        """What unsteady tells."""
        if not self._faults:
            self._faults.append(found_unsteady(self))
        return self._faults[0]

    def check_library(self, library):
        if not is_word(library) or library not in self._releases:
            raise NoLibrary(library)

    def check_number(self, library, number):
        if not is_integer_from(1, number) or number > len(self._releases[library]):
            raise NoRelease(number)


def fits(releases, library, number, other):
    releases.check_library(library)
    releases.check_library(other)
    if other == library:
        raise NoLibrary(other)
    releases.check_number(library, number)
    return fitting(releases, library, number, other)


def fitting(releases, library, number, other):
    wanted = [(name, version) for word, name, version in releases.release(library, number)[1] if word == other]
    numbers = range(1, releases.libraries()[other] + 1)
    return [at for at in numbers if tells_all(releases.release(other, at)[0], wanted)]


def tells_all(told, wanted):
    return all([pair in told for pair in wanted])


def gap_of(releases, library):
    """The first pair, ascending, that releases of a library tell with a gap between them, None if there is none."""
    told_by = {}
    for number in range(1, releases.libraries()[library] + 1):
        for pair in releases.release(library, number)[0]:
            told_by.setdefault(pair, []).append(number)
    for pair in sorted(told_by):
        numbers = told_by[pair]
        if numbers[-1] - numbers[0] >= len(numbers):
            return pair
    return None


def fits_of_living(releases, library):
    """For each release of a library that is not dead its number and the dict from other libraries to what fits."""
    others = [other for other in releases.libraries() if other != library]
    living = []
    for number in range(1, releases.libraries()[library] + 1):
        fit = {other: fitting(releases, library, number, other) for other in others}
        if all([len(numbers) > 0 for numbers in fit.values()]):
            living.append((number, fit))
    return living


def step_back(releases, library):
    """The first (other, number, number) of releases of which the later one fits earlier ones, None if there is none."""
    living = fits_of_living(releases, library)
    for other in releases.libraries():
        if other == library:
            continue
        for at, (number, fit) in enumerate(living):
            for later, further in living[at + 1:]:
                if further[other][0] < fit[other][0] or further[other][-1] < fit[other][-1]:
                    return (other, number, later)
    return None


def unsteady(releases):
    return releases.first_fault()


def found_unsteady(releases):
    for library in releases.libraries():
        pair = gap_of(releases, library)
        if pair is not None:
            return ("gap", library, *pair)
    for library in releases.libraries():
        step = step_back(releases, library)
        if step is not None:
            return ("back", library, *step)
    return None

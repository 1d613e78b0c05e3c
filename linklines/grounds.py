"""A store's libraries and what a main needs: the ground on which rows of libraries are loaded."""

from linklines.checks import are_unlike_words, first_not_among, is_list, is_row_of, is_word
from linklines.errors import BadCompany, BadPlaces, BadReference, Lacking, NoLibrary
from linklines.objects import Library


class Ground:
    """Libraries by name, the things that a main needs, and the promises of its holes: Lacking, then BadPlaces."""

    def __init__(self, store, needs):
        self.shelved = {}
        for name in store.files():
            if isinstance(store.file(name), Library):
                self.shelved[name] = store.file(name)
        self.check_lacking()
        self.places = self.checked_places(needs)

    def check_lacking(self):
        for library in self.shelved.values():
            for word in library.needs():
                if word not in self.shelved:
                    raise Lacking(word)

    def checked_places(self, needs):
        """The things that a main needs, with holes as the dicts of the names promised there."""
        if not is_list(needs):
            raise BadPlaces(0)
        places = []
        for index, thing in enumerate(needs):
            if is_list(thing) and all([is_word(word) for word in thing]):
                places.append({word: True for word in thing})
            elif is_word(thing) and thing in self.shelved and thing not in places:
                places.append(thing)
            else:
                raise BadPlaces(index)
        return places

    def promised(self):
        """For each hole the dict of the names promised there."""
        return [thing for thing in self.places if isinstance(thing, dict)]

    def has_holes(self):
        return len(self.promised()) > 0

    def place_of_hole(self, number):
        """Where a hole stands among the things needed."""
        holes = [at for at, thing in enumerate(self.places) if isinstance(thing, dict)]
        return holes[number]

    def check_company(self, company):
        if not is_list(company):
            raise BadCompany(0)
        promised = self.promised()
        for index, pair in enumerate(company):
            barred = promised[index] if index < len(promised) else {}
            if not self.is_companion(pair, barred):
                raise BadCompany(index)
        if len(company) != len(promised):
            raise BadCompany(len(company))

    def is_companion(self, pair, barred):
        if not is_row_of(2, pair) or not are_unlike_words(pair[0]):
            return False
        if any([word in barred for word in pair[0]]):
            return False
        return first_not_among(pair[1], self.shelved) is None

    def check_library(self, name):
        if not is_word(name) or name not in self.shelved:
            raise NoLibrary(name)

    def check_reference(self, thing):
        if not is_row_of(2, thing) or not is_word(thing[0]) or thing[0] not in self.shelved:
            raise BadReference(thing)
        if not is_word(thing[1]) or thing[1] not in self.referred(thing[0]):
            raise BadReference(thing)

    def referred(self, name):
        """The names to which a library refers, ascending."""
        return sorted([*self.shelved[name].wants(), *self.shelved[name].asks()])

    def does_tell(self, library, name):
        return name in self.shelved[library].tells()

    def binds_itself(self, library, name):
        return self.shelved[library].own_first() and self.does_tell(library, name)

    def bare(self):
        return [((), ()) for _ in self.promised()]

    def company_needing(self, libraries):
        """The company whose first hole needs these libraries, nobody telling or needing anything else."""
        return [((), tuple(libraries)), *self.bare()[1:]]

    def loaded_row(self, company):
        """Libraries by name and holes by number, in the order in which they are loaded."""
        loaded = []
        holes = 0
        for thing in self.places:
            loaded.append(holes if isinstance(thing, dict) else thing)
            holes += 1 if isinstance(thing, dict) else 0
        at = 0
        while at < len(loaded):
            needed = self.needed_by(loaded[at], company)
            for name in needed:
                if name not in loaded:
                    loaded.append(name)
            at += 1
        return loaded

    def needed_by(self, thing, company):
        return self.shelved[thing].needs() if isinstance(thing, str) else company[thing][1]

    def first_one(self, loaded, company, name):
        """The first thing of a row that tells a name, None if there is none."""
        for thing in loaded:
            told = self.shelved[thing].tells() if isinstance(thing, str) else company[thing][0]
            if name in told:
                return thing
        return None

"""Stores: files under their names."""

from linklines.checks import frozen, is_list, is_word
from linklines.errors import BadFiles, NoFile
from linklines.objects import Archive, Library, Object


def is_group(thing, files):
    if not is_list(thing) or len(thing) == 0:
        return False
    return all([is_word(word) and isinstance(files.get(word), Archive) for word in thing])


def is_file(thing, files):
    return isinstance(thing, (Object, Archive, Library)) or is_group(thing, files)


class Store:
    """A dict of files: objects, archives, libraries, groups of archives."""

    def __init__(self, files):
        if not isinstance(files, dict):
            raise BadFiles(None)
        for name, held in files.items():
            if not is_word(name) or not is_file(held, files):
                raise BadFiles(name)
        self._files = {name: frozen(files[name]) for name in sorted(files)}

    def __eq__(self, other):
        return isinstance(other, Store) and self._files == other._files

    def files(self):
        return list(self._files)

    def file(self, name):
        if not self.has_file(name):
            raise NoFile(name)
        return self._files[name]

    def has_file(self, name):
        return is_word(name) and name in self._files

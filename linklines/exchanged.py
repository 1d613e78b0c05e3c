"""What others see of a line when an object of a store is exchanged."""

from linklines.errors import BadObject, NoFile, NoObject
from linklines.objects import Object
from linklines.stores import Store
from linklines.tables import Table


class Views:
    """What others than one file see behind each stand of a store, and who comes where a file leads on."""

    def __init__(self, store, file):
        self.table = Table(store)
        self.heard_words = {}
        for who, card in self.table.all_cards().items():
            if who != (file, None):
                self.heard_words[who] = [*card.definitions, *card.wanted, *card.asked]
        self.seen = [self.view(number) for number in range(len(self.table.all_stands))]

    def view(self, number):
        """The outcome, with those meanings alone that others know of, and of these only whose they are."""
        end = self.table.all_outcomes[number]
        if end[0] != "links":
            return end
        heard = {}
        for who in self.table.all_stands[number][0]:
            heard.update({name: True for name in self.heard_words.get(who, [])})
        return ("links", tuple([(name, meaning[1]) for name, meaning in end[1] if name in heard]))

    def led(self, number, name):
        """The number to which a file leads, and the others who come then, in order."""
        comers = self.table.all_comers[number][name]
        return (self.table.all_ways[number][name], [who for who in comers if who in self.heard_words])


def are_seen_apart(one, other, are_alike):
    return one != other or (one[0] == "links" and not are_alike)


def first_seen(store, file, obj):
    if not store.has_file(file):
        raise NoFile(file)
    if not isinstance(store.file(file), Object):
        raise NoObject(file)
    if not isinstance(obj, Object):
        raise BadObject(obj)
    files = {name: store.file(name) for name in store.files()}
    views = (Views(store, file), Views(Store({**files, file: obj}), file))
    # two numbers of stands, and whether the lists of the others taken are alike
    begin = (0, 0, True)
    lines = {begin: []}
    queue = [begin]
    at = 0
    while at < len(queue):
        one, other, are_alike = queue[at]
        if are_seen_apart(views[0].seen[one], views[1].seen[other], are_alike):
            return lines[queue[at]]
        for name in files:
            after = step_behind(views, queue[at], name)
            if after not in lines:
                lines[after] = [*lines[queue[at]], name]
                queue.append(after)
        at += 1
    return None


def step_behind(views, halt, name):
    one, comers = views[0].led(halt[0], name)
    other, further = views[1].led(halt[1], name)
    # lists that are unlike stay so: who is taken later in one of them comes behind somebody who lets it be taken
    return (one, other, halt[2] and comers == further)

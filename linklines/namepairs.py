"""The first two inputs of given kinds whose names stand to one another as is asked for."""


class Completions:
    """How words go on from all places of a walk to names for which there is a file: the fewest signs, file included."""

    def __init__(self, walk, files):
        self.walk = walk
        self.file_of = files
        self.endings = [self.own_ends(walk.layers[-1])]
        for layer in reversed(walk.layers[:-1]):
            self.endings.append(self.shorter(layer))
        self.endings.reverse()

    def own_end(self, places):
        """What it costs to end here, None if a name that ends here has no file."""
        file = self.file_of.get(self.walk.lot_of(places))
        return None if file is None else (len(file), file, "")

    def own_ends(self, layer):
        ends = {}
        for places in layer:
            end = self.own_end(places)
            if end is not None:
                ends[places] = end
        return ends

    def shorter(self, layer):
        """What the places of a layer cost, once those of the next one are known."""
        further = self.endings[-1]
        found = self.own_ends(layer)
        for places in layer:
            for sign, reached in zip(self.walk.signs, self.walk.reached_from(places)):
                if reached in further:
                    many, file, word = further[reached]
                    way = (many + 1, file, sign + word)
                    if places not in found or way < found[places]:
                        found[places] = way
        return found


def joined(prefix, one, other):
    """The pair (signs, file, name, file, name) of two ways behind one prefix."""
    return (2 * len(prefix) + one[0] + other[0], one[1], prefix + one[2], other[1], prefix + other[2])


def least_pair(files, other_files, walk, is_falling):
    """The first (signs, file, name, file, name): names by lots that have a file, the first above the second or not.

    Two names part at some sign, or where one of them ends; behind that each goes on by itself.
    """
    sides = (Completions(walk, files), Completions(walk, other_files))
    best = None
    for many, layer in enumerate(walk.layers):
        for places, prefix in layer.items():
            for found in pairs_behind(sides, many, places, prefix, is_falling):
                if best is None or found < best:
                    best = found
    return best


def pairs_behind(sides, many, places, prefix, is_falling):
    """The best pairs of names that begin with the prefix and part behind it."""
    walk = sides[0].walk
    found = []
    lower, upper = (1, 0) if is_falling else (0, 1)
    low_end = sides[lower].own_end(places) if prefix else None
    high_end = sides[upper].own_end(places) if prefix else None
    if low_end is not None and high_end is not None and not is_falling:
        found.append(joined(prefix, low_end, high_end))
    if many == walk.most:
        return found
    ways = [[], []]
    for sign, reached in zip(walk.signs, walk.reached_from(places)):
        for side in (0, 1):
            way = sides[side].endings[many + 1].get(reached)
            ways[side].append(None if way is None else (way[0] + 1, way[1], sign + way[2]))
    best_lows = [low_end]
    for way in ways[lower]:
        best_lows.append(lesser(best_lows[-1], way))
    for low, way in zip(best_lows, ways[upper]):
        if low is not None and way is not None:
            found.append(joined(prefix, way, low) if is_falling else joined(prefix, low, way))
    return found


def lesser(one, other):
    if one is None or other is None:
        return one if other is None else other
    return min(one, other)

"""Plans of parts whose sizes are not fixed, and their layouts."""

from linklines.checks import is_integer, is_integer_from, is_list, is_row_of, is_word
from linklines.errors import BadPage, BadPart, BadSizes, NoPart
from linklines.objects import ALIGNS, RIGHTS

PAGES = (8, 16, 32, 64)


def is_part(thing, page):
    if not is_row_of(6, thing):
        return False
    word, rights, align, least, most, zeros = thing
    if not is_word(word) or rights not in RIGHTS or not is_integer(align) or align not in ALIGNS or align > page:
        return False
    if not is_integer_from(0, least) or not is_integer(most) or most < least:
        return False
    return isinstance(zeros, bool)


def check_parts(page, parts):
    if not is_list(parts) or len(parts) == 0:
        raise BadPart(0)
    seen = {}
    for index, thing in enumerate(parts):
        if not is_part(thing, page) or thing[0] in seen:
            raise BadPart(index)
        if index > 0 and parts[index - 1][5] and not thing[5] and parts[index - 1][1] == thing[1]:
            raise BadPart(index)
        seen[thing[0]] = True


class Plan:
    """Parts that stand behind one another in memory and in a file, each with the sizes that it can have."""

    def __init__(self, page, parts):
        if not is_integer(page) or page not in PAGES:
            raise BadPage(page)
        check_parts(page, parts)
        self._page = page
        self._parts = [tuple(part) for part in parts]

    def __eq__(self, other):
        return isinstance(other, Plan) and self._page == other._page and self._parts == other._parts

    def page(self):
        return self._page

    def parts(self):
        return list(self._parts)

    def check_sizes(self, sizes):
        if not is_list(sizes):
            raise BadSizes(0)
        for index, thing in enumerate(sizes):
            if index == len(self._parts) or not is_integer(thing):
                raise BadSizes(index)
            if not self._parts[index][3] <= thing <= self._parts[index][4]:
                raise BadSizes(index)
        if len(sizes) < len(self._parts):
            raise BadSizes(len(self._parts))

    def part_number(self, word):
        """The number of the part with a word; NoPart."""
        words = [part[0] for part in self._parts]
        if not is_word(word) or word not in words:
            raise NoPart(word)
        return words.index(word)

    def bound(self, number, end):
        """Where a part can begin at the earliest behind an end, its align aside: rights share no page."""
        if number == 0 or self._parts[number - 1][1] == self._parts[number][1]:
            return end
        return multiple_from(end, self._page)

    def place(self, number, end):
        """The least address of a part behind an end."""
        return multiple_from(self.bound(number, end), self._parts[number][2])

    def earliest_places(self, sizes):
        """The addresses of all parts where each is as early as can be."""
        found = []
        end = 0
        for number, size in enumerate(sizes):
            found.append(self.place(number, end))
            end = found[-1] + size
        return found


def multiple_from(least, step):
    """The least multiple of a step that is not below a number."""
    return (least + step - 1) // step * step


def like_from(least, model, page):
    """The least number not below one that leaves the same rest by the page as a model."""
    return least + (model - least) % page


def is_layout(plan, sizes, thing):
    plan.check_sizes(sizes)
    parts = plan.parts()
    if not is_row_of(len(parts), thing):
        return False
    end = 0
    file_end = 0
    for number, pair in enumerate(thing):
        zeros = parts[number][5]
        if not is_place(plan, number, pair, end) or not is_offset(plan, pair, zeros, file_end):
            return False
        end = pair[0] + sizes[number]
        if not zeros:
            file_end = pair[1] + sizes[number]
    return True


def is_place(plan, number, pair, end):
    """Whether a part can have the address of a pair behind an end."""
    if not is_row_of(2, pair) or not is_integer(pair[0]):
        return False
    return pair[0] >= plan.bound(number, end) and pair[0] % plan.parts()[number][2] == 0


def is_offset(plan, pair, zeros, file_end):
    if zeros:
        return pair[1] is None
    return is_integer(pair[1]) and pair[1] >= file_end and (pair[1] - pair[0]) % plan.page() == 0


def earliest(plan, sizes):
    plan.check_sizes(sizes)
    layout = []
    file_end = 0
    for part, size, address in zip(plan.parts(), sizes, plan.earliest_places(sizes)):
        offset = None if part[5] else like_from(file_end, address, plan.page())
        layout.append((address, offset))
        file_end = file_end if part[5] else offset + size
    return layout


def shortest(plan, sizes):
    plan.check_sizes(sizes)
    layout = []
    end = 0
    file_end = 0
    for number, part in enumerate(plan.parts()):
        address = plan.place(number, end)
        offset = None
        if not part[5]:
            # any rest by the page that the align lets can be had in memory
            offset = multiple_from(file_end, part[2])
            address = like_from(plan.bound(number, end), offset, plan.page())
            file_end = offset + sizes[number]
        layout.append((address, offset))
        end = address + sizes[number]
    return layout

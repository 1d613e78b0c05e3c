"""Layouts that are short in the file and in memory together, and parts in a better order."""

from itertools import permutations

from linklines.plans import like_from, multiple_from


class Draft:
    """The layout of the first parts: where it ends in memory and in the file."""

    def __init__(self, end, file_end, layout):
        self.end = end
        self.file_end = file_end
        self.layout = layout

    def with_zeros(self, address, size):
        return Draft(address + size, self.file_end, [*self.layout, (address, None)])

    def with_bits(self, bound, rest, size, page):
        """With bits more whose address leaves this rest by the page."""
        address, offset = like_from(bound, rest, page), like_from(self.file_end, rest, page)
        return Draft(address + size, offset + size, [*self.layout, (address, offset)])


def drafts_of(plan, sizes):
    """Of all layouts those of which no other one has both ends as small, ascending by their ends in the file."""
    drafts = [Draft(0, 0, [])]
    for number, part in enumerate(plan.parts()):
        further = []
        for draft in drafts:
            bound = plan.bound(number, draft.end)
            if part[5]:
                further.append(draft.with_zeros(plan.place(number, draft.end), sizes[number]))
                continue
            for rest in range(0, plan.page(), part[2]):
                further.append(draft.with_bits(bound, rest, sizes[number], plan.page()))
        drafts = best_drafts(further)
    return drafts


def best_drafts(drafts):
    best = []
    for _, end, number in sorted([(draft.file_end, draft.end, number) for number, draft in enumerate(drafts)]):
        if not best or end < best[-1].end:
            best.append(drafts[number])
    return best


def pages_to(plan, end):
    return multiple_from(end, plan.page()) // plan.page()


def best_pairs(plan, sizes):
    plan.check_sizes(sizes)
    pairs = []
    for draft in drafts_of(plan, sizes):
        memory = pages_to(plan, draft.end)
        if not pairs or memory < pairs[-1][1]:
            pairs.append((draft.file_end, memory))
    return pairs


def layout_with(plan, sizes, file, memory):
    plan.check_sizes(sizes)
    for draft in drafts_of(plan, sizes):
        if draft.file_end <= file and pages_to(plan, draft.end) <= memory:
            return draft.layout
    return None


def runs_of(plan):
    """The lists of the numbers of parts of like rights that stand behind one another."""
    runs = []
    for number, part in enumerate(plan.parts()):
        if number > 0 and plan.parts()[number - 1][1] == part[1]:
            runs[-1].append(number)
        else:
            runs.append([number])
    return runs


def end_of(plan, sizes, order):
    """Where parts of a run end, one behind another from the begin of a page on."""
    end = 0
    for number in order:
        end = multiple_from(end, plan.parts()[number][2]) + sizes[number]
    return end


def best_of_run(plan, sizes, run, is_last):
    bits = [number for number in run if not plan.parts()[number][5]]
    zeros = [number for number in run if plan.parts()[number][5]]
    best = ()
    for first in permutations(bits):
        for second in permutations(zeros):
            end = end_of(plan, sizes, first + second)
            found = (end if is_last else pages_to(plan, end), first + second)
            if best == () or found < best:
                best = found
    return list(best[1])


def best_order(plan, sizes):
    plan.check_sizes(sizes)
    runs = runs_of(plan)
    order = []
    for at, run in enumerate(runs):
        order.extend(best_of_run(plan, sizes, run, at == len(runs) - 1))
    return order

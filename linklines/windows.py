"""The least of what lies ahead, for each place of a row."""


def least_ahead(sums, nearest, farthest):
    """For each place the least of step and sum behind it, over the steps from nearest to farthest; None for none.

    A queue keeps the places that can still be the best of a window, the best one first.
    """
    many = len(sums)
    found = [None] * many
    queue = []
    begin = 0
    further = many - 1
    for place in range(many - 1, -1, -1):
        while further >= place + nearest:
            if sums[further] is not None:
                while len(queue) > begin and sums[queue[-1]] + queue[-1] >= sums[further] + further:
                    queue.pop()
                queue.append(further)
            further -= 1
        while len(queue) > begin and queue[begin] > place + farthest:
            begin += 1
        if len(queue) > begin:
            found[place] = sums[queue[begin]] + queue[begin] - place
    return found

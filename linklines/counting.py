"""In how many orders things can stand."""


def count_orders(barred):
    """In how many orders numbers can stand, each behind those whose bits are told for it."""
    ways = {0: 1}
    for _ in barred:
        further = {}
        for done, many in ways.items():
            for number, ahead_of_it in enumerate(barred):
                bit = 1 << number
                if not done & bit and done & ahead_of_it == ahead_of_it:
                    further[done + bit] = further.get(done + bit, 0) + many
        ways = further
    return sum(list(ways.values()))

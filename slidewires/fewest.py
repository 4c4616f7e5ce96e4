"""Of all matchings of two graphs one with the fewest pairs of boxes that stand the other way about."""

from slidewires.heaps import parts_of
from slidewires.spelling import are_alike, heap_pairs, matching_of


def least_matching(stock, one, other):
    # A matching, or None where the graphs are not alike.
    if not are_alike(stock, one, other):
        return None
    ones = parts_of(stock, one)
    others = parts_of(stock, other)
    pairs = list(zip(ones.hung, others.hung)) + single_pairs(ones.heaps, others.heaps)
    search = Search([heap_pairs(heap, others.heaps) for heap in ones.heaps if len(heap.numbers) > 1])
    search.go_on(pairs, {}, turned_within(pairs))
    return matching_of(search.best)


def single_pairs(ones, others):
    # Boxes that are heaps by themselves: where two like ones stood the other way about,
    # to exchange their matches would never turn more pairs. So they are matched in their order.
    left = [heap for heap in others if len(heap.numbers) == 1]
    pairs = []
    for heap in ones:
        if len(heap.numbers) == 1:
            alike = [other for other in left if other.spelt == heap.spelt]
            left.remove(alike[0])
            pairs.append((heap.numbers[0], alike[0].numbers[0]))
    return pairs


class Search:
    # choices: for each heap that is left, all its ways to be matched, as heap_pairs tells them.
    def __init__(self, choices):
        self.choices = choices
        self.best = None
        self.least = 0

    def go_on(self, pairs, used, turned):
        waiting = [free_ways(choices, used) for choices in self.choices[len(used):]]
        costs = [ways_costs(pairs, ways) for ways in waiting]
        # Whatever the waiting heaps turn among themselves, beside the matched ones they turn no less than this.
        if self.best is not None and turned + sum([min(some) for some in costs]) >= self.least:
            return
        if waiting == []:
            self.best = pairs
            self.least = turned
            return
        # The cheapest first: so a good one is found early, and more are cut off.
        for place in sorted(range(len(costs[0])), key=lambda k: costs[0][k]):
            way = waiting[0][place]
            then = dict(used)
            then[way[0]] = True
            self.go_on(pairs + list(way[1]), then, turned + costs[0][place])


def free_ways(choices, used):
    return [way for way in choices if way[0] not in used]


def ways_costs(pairs, ways):
    # How many pairs each way would turn: within its heap, and with the boxes that are matched.
    return [turned_within(more) + turned_between(pairs, more) for heap, more in ways]


def turned_within(pairs):
    return sum([turned_between(pairs[:k], pairs[k:k + 1]) for k in range(len(pairs))])


def turned_between(ones, others):
    many = 0
    for here, there in ones:
        many = many + len([True for one, other in others if (here < one) != (there < other)])
    return many


def turned_pairs(matching):
    return turned_within(list(enumerate(matching)))

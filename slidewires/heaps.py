"""The parts of a graph: what hangs on the picture's own feet, and the heaps."""

from slidewires.numbering import come_to, far_feet, feet_by_number, numbered


class Heap:
    # The boxes of a heap by their numbers; its spelled graph; and each order of
    # its boxes in which it is that graph: more than one where it can be turned in itself.
    def __init__(self, numbers, spelt, orders):
        self.numbers = numbers
        self.spelt = spelt
        self.orders = orders


class Parts:
    # The boxes that hang on the picture's feet, in the order they are come to, and the heaps.
    def __init__(self, hung, heaps):
        self.hung = hung
        self.heaps = heaps


def parts_of(stock, graph):
    far = far_feet(graph)
    feet = feet_by_number(stock, graph)
    hung = come_to(0, far, feet)[1:]
    seen = {}
    for number in hung:
        seen[number] = True
    heaps = []
    for number in range(1, len(graph[2]) + 1):
        if number not in seen:
            numbers = sorted(come_to(number, far, feet))
            for one in numbers:
                seen[one] = True
            heaps.append(heap_of(graph, numbers, far, feet))
    return Parts(hung, heaps)


def heap_of(graph, numbers, far, feet):
    ties = tuple([tie for tie in graph[3] if tie[0][0] in numbers])
    alone = ((), (), graph[2], ties, ())
    orders = [come_to(start, far, feet) for start in numbers]
    written = [numbered(alone, order) for order in orders]
    least = min(written)
    return Heap(numbers, least, [order for order, one in zip(orders, written) if one == least])

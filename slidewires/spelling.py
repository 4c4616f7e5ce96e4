"""Graphs that are alike: the spelled graph, matchings, heaps."""

from slidewires.heaps import parts_of
from slidewires.numbering import numbered


def spelled(stock, graph):
    parts = parts_of(stock, graph)
    order = list(parts.hung)
    for heap in sorted(parts.heaps, key=lambda heap: heap.spelt):
        order.extend(heap.orders[0])
    return numbered(graph, order)


def are_alike(stock, one, other):
    return spelled(stock, one) == spelled(stock, other)


def heaps_of(stock, graph):
    return [heap.spelt for heap in parts_of(stock, graph).heaps]


def matchings(stock, one, other):
    if not are_alike(stock, one, other):
        return ()
    ones = parts_of(stock, one)
    others = parts_of(stock, other)
    # Each row is begun by what hangs on the picture's feet: that can be matched in one way alone.
    rows = [((), tuple(zip(ones.hung, others.hung)))]
    for heap in ones.heaps:
        rows = rows_on(rows, heap_pairs(heap, others.heaps))
    return tuple(sorted([matching_of(pairs) for used, pairs in rows]))


def matching_of(pairs):
    return tuple([there for here, there in sorted(pairs)])


def rows_on(rows, choices):
    longer = []
    for used, pairs in rows:
        for k, more in choices:
            if k not in used:
                longer.append((used + (k,), pairs + more))
    return longer


def heap_pairs(heap, heaps):
    # Told are all ways to match the heap with one of the others: (its place among them, pairs of boxes).
    found = []
    for k, other in enumerate(heaps):
        if other.spelt == heap.spelt:
            for order in other.orders:
                found.append((k, tuple(zip(heap.orders[0], order))))
    return found

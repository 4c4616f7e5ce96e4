"""Rules: a piece of a graph, its left, and what is put for it, its right."""

from slidewires.graphs import is_graph
from slidewires.numbering import come_to, far_feet, feet_by_number

MOST_BOXES = 3


def is_rule(stock, thing):
    if stock[0] != "bent" or not isinstance(thing, tuple) or len(thing) != 2:
        return False
    left = thing[0]
    right = thing[1]
    if not is_graph(stock, left) or not is_graph(stock, right) or left[:2] != right[:2]:
        return False
    if not len(right[2]) < len(left[2]) <= MOST_BOXES or left[4] != ():
        return False
    # The picture's own feet come first, so a tie of two of them tells by its second one.
    if any([other[0] == 0 for foot, other in left[3]]):
        return False
    return hangs_together(stock, left)


def hangs_together(stock, graph):
    feet = feet_by_number(stock, graph)
    # A way through the picture's own feet is none by ties.
    feet[0] = []
    boxes = [number for number in come_to(1, far_feet(graph), feet) if number != 0]
    return len(boxes) == len(graph[2])


def inner_ties(graph):
    # The ties of two of the boxes' feet; the picture's own feet come first in a tie.
    return [(foot, other) for foot, other in graph[3] if foot[0] != 0]

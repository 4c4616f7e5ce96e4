"""Where a rule's left lies in a graph, and the rule done there."""

from slidewires.errors import NoFind
from slidewires.feet import sorts_of_feet
from slidewires.graphs import graph_by
from slidewires.names import is_whole
from slidewires.numbering import far_feet
from slidewires.rules import inner_ties
from slidewires.strands import Strands


def finds(stock, graph, rule):
    far = far_feet(graph)
    found = []
    # All of left hangs together: so where its first box lies the others are come to along the ties.
    for start in range(1, len(graph[2]) + 1):
        find = find_from(graph, rule[0], far, start)
        if is_find(graph, rule[0], far, find):
            found.append(find)
    return tuple(found)


def find_from(graph, left, far, start):
    # Told is the one tuple that may be a find; boxes that aren't come to are told as 0.
    places = {1: start}
    ties = inner_ties(left)
    ties = ties + [(other, foot) for foot, other in ties]
    for many in range(len(left[2]) - 1):
        for foot, other in ties:
            if foot[0] in places and other[0] not in places:
                places[other[0]] = far.get((places[foot[0]],) + foot[1:], (0,))[0]
    return tuple([places.get(number, 0) for number in range(1, len(left[2]) + 1)])


def is_find(graph, left, far, thing):
    if not isinstance(thing, tuple):
        return False
    if not all([is_whole(number) and 1 <= number <= len(graph[2]) for number in thing]):
        return False
    if len(set(thing)) != len(thing) or tuple([graph[2][number - 1] for number in thing]) != left[2]:
        return False
    return all([far[put_at(foot, thing)] == put_at(other, thing) for foot, other in inner_ties(left)])


def put_at(foot, find):
    return (find[foot[0] - 1],) + foot[1:]


def done(stock, graph, rule, find):
    if not is_find(graph, rule[0], far_feet(graph), find):
        raise NoFind("the rule's left does not lie there")
    stay = [number for number in range(1, len(graph[2]) + 1) if number not in find]
    strands = Strands()
    tie_outer(strands, graph, rule[0], find, stay)
    tie_inner(strands, rule[1], len(stay))
    # A foot of the rule's own is where the wires of the graph and those of right are put together.
    own = sorts_of_feet(stock, rule[0][0], rule[0][1], ())
    for foot in own:
        strands.join_ends(("out", foot), ("in", foot), own[foot])
    boxes = tuple([graph[2][number - 1] for number in stay]) + rule[1][2]
    return graph_by(stock, strands, graph[0], graph[1], boxes)


def tie_outer(strands, graph, left, find, stay):
    ends = outer_ends(left, find)
    numbers = {0: 0}
    for k, number in enumerate(stay, start=1):
        numbers[number] = k
    for foot, other in graph[3]:
        one = ends[foot] if foot in ends else (numbers.get(foot[0]),) + foot[1:]
        two = ends[other] if other in ends else (numbers.get(other[0]),) + other[1:]
        # A tie within left goes with its boxes.
        if one[0] is not None and two[0] is not None:
            strands.tie(one, two)
    for sort, many in graph[4]:
        strands.add_rings(sort, many)


def outer_ends(left, find):
    # For each foot of a found box that is tied to a foot of left's own: the end that hangs there.
    ends = {}
    for foot, other in left[3]:
        if foot[0] == 0:
            ends[put_at(other, find)] = ("out", foot)
    return ends


def tie_inner(strands, right, many):
    for foot, other in right[3]:
        strands.tie(inner_end(foot, many), inner_end(other, many))
    for sort, more in right[4]:
        strands.add_rings(sort, more)


def inner_end(foot, many):
    return ("in", foot) if foot[0] == 0 else (many + foot[0],) + foot[1:]

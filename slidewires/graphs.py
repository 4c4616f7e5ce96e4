"""Graphs: what is tied to what in a picture, however its wires are laid."""

from slidewires.feet import is_giver, sorts_of_feet
from slidewires.names import is_whole
from slidewires.pictures import boxes_of
from slidewires.steps import wires_behind
from slidewires.stocks import feet_of, has_box, is_sort_row
from slidewires.strands import Strands


def graph_of(stock, picture):
    strands = Strands()
    strands.give(0, row_of_feet(0, "up", picture[0]))
    wires = picture[0]
    number = 0
    for layer in picture[1]:
        if layer[1][0] == "box":
            number = number + 1
        lead_on(stock, strands, wires, layer, number)
        wires = wires_behind(stock, wires, layer)
    strands.take(0, row_of_feet(0, "down", wires))
    return graph_by(stock, strands, picture[0], wires, boxes_of(picture))


def graph_by(stock, strands, above, below, boxes):
    # All feet of the graph are tied by the strands.
    feet = sorts_of_feet(stock, above, below, boxes)
    ties = sorted([(foot, strands.far[foot]) for foot in feet if foot < strands.far[foot]])
    rings = [(sort, strands.rings[sort]) for sort in stock[1] if sort in strands.rings]
    return (above, below, boxes, tuple(ties), tuple(rings))


def row_of_feet(number, side, sorts):
    return [(number, side, i) for i in range(len(sorts))]


def lead_on(stock, strands, wires, layer, number):
    place = layer[0]
    step = layer[1]
    if step[0] == "box":
        feet = feet_of(stock, step[1])
        strands.take(place, row_of_feet(number, "up", feet[0]))
        strands.give(place, row_of_feet(number, "down", feet[1]))
    elif step[0] == "cross":
        strands.exchange(place)
    elif step[0] == "cup":
        strands.bend_down(place)
    else:
        strands.bend_up(place, wires[place])


def rings_of(graph, sort):
    return sum([many for name, many in graph[4] if name == sort])


def is_graph(stock, thing):
    if stock[0] == "braid" or not isinstance(thing, tuple) or len(thing) != 5:
        return False
    if not is_sort_row(thing[0], stock[1]) or not is_sort_row(thing[1], stock[1]):
        return False
    if not isinstance(thing[2], tuple) or not all([has_box(stock, name) for name in thing[2]]):
        return False
    feet = sorts_of_feet(stock, thing[0], thing[1], thing[2])
    if not are_ties(thing[3], feet) or not are_rings(thing[4], stock[1]):
        return False
    if stock[0] == "bent":
        return True
    return thing[4] == () and is_loose(len(thing[2]), thing[3])


def are_ties(thing, feet):
    if not isinstance(thing, tuple) or not all([is_tie(tie, feet) for tie in thing]):
        return False
    if not all([one < other for one, other in zip(thing, thing[1:])]):
        return False
    tied = [foot for foot, other in thing] + [other for foot, other in thing]
    return len(tied) == len(feet) and len(set(tied)) == len(feet)


def is_tie(thing, feet):
    if not isinstance(thing, tuple) or len(thing) != 2:
        return False
    if not is_foot(thing[0], feet) or not is_foot(thing[1], feet):
        return False
    return thing[0] < thing[1] and feet[thing[0]] == feet[thing[1]]


def is_foot(thing, feet):
    if not isinstance(thing, tuple) or len(thing) != 3:
        return False
    if not is_whole(thing[0]) or not isinstance(thing[1], str) or not is_whole(thing[2]):
        return False
    return thing in feet


def are_rings(thing, sorts):
    if not isinstance(thing, tuple) or not all([is_ring(ring, sorts) for ring in thing]):
        return False
    places = [sorts.index(ring[0]) for ring in thing]
    return all([one < other for one, other in zip(places, places[1:])])


def is_ring(thing, sorts):
    if not isinstance(thing, tuple) or len(thing) != 2:
        return False
    return thing[0] in sorts and is_whole(thing[1]) and thing[1] >= 1


def is_loose(many, ties):
    if not all([is_giver(foot) != is_giver(other) for foot, other in ties]):
        return False
    return not comes_round(many, [giver_to_taker(foot, other) for foot, other in ties])


def giver_to_taker(foot, other):
    return (foot[0], other[0]) if is_giver(foot) else (other[0], foot[0])


def comes_round(many, ways):
    inner = [way for way in ways if 0 not in way]
    awaited = {}
    for number in range(1, many + 1):
        awaited[number] = len([way for way in inner if way[1] == number])
    free = [number for number in awaited if awaited[number] == 0]
    gone = 0
    # A box goes once all that give to it are gone; those on a round way never do.
    while free:
        number = free.pop()
        gone = gone + 1
        for way in inner:
            if way[0] == number:
                awaited[way[1]] = awaited[way[1]] - 1
                if awaited[way[1]] == 0:
                    free.append(way[1])
    return gone < many

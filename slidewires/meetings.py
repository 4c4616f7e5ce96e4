"""Meetings of rules: two finds that share a box; and rules looked over."""

from slidewires.feet import sorts_of_feet
from slidewires.finds import put_at
from slidewires.graphs import is_graph
from slidewires.resting import at_rest, come_by, first_step
from slidewires.rules import inner_ties
from slidewires.spelling import are_alike


def meetings(stock, rules):
    found = []
    for i in range(len(rules)):
        for j in range(i, len(rules)):
            found.extend(meetings_of(stock, rules, i, j))
    return found


def meetings_of(stock, rules, i, j):
    left = rules[i][0]
    find = tuple(range(1, len(left[2]) + 1))
    found = []
    for other in other_finds(left, rules[j][0]):
        if i != j or find != other:
            graph = met(stock, left, rules[j][0], other)
            if graph is not None:
                found.append((graph, i, find, j, other))
    return found


def other_finds(one, other):
    # All ways to lay the other's boxes on the one's, or behind them, one at least on one.
    rows = [()]
    for name in other[2]:
        longer = []
        for row in rows:
            fresh = len(one[2]) + 1 + len([number for number in row if number > len(one[2])])
            on = [number for number in range(1, len(one[2]) + 1) if one[2][number - 1] == name and number not in row]
            longer.extend([row + (number,) for number in on + [fresh]])
        rows = longer
    return [row for row in rows if min(row) <= len(one[2])]


def met(stock, one, other, find):
    # Told is None where a foot would be in two ties.
    fresh = [name for name, number in zip(other[2], find) if number > len(one[2])]
    boxes = one[2] + tuple(fresh)
    far = {}
    for foot, then in inner_ties(one) + [(put_at(foot, find), put_at(then, find)) for foot, then in inner_ties(other)]:
        if far.get(foot, then) != then or far.get(then, foot) != foot:
            return None
        far[foot] = then
        far[then] = foot
    return with_open_feet(stock, boxes, far)


def with_open_feet(stock, boxes, far):
    feet = sorts_of_feet(stock, (), (), boxes)
    loose = sorted([foot for foot in feet if foot not in far])
    below = tuple([feet[foot] for foot in loose])
    ties = [((0, "down", k), foot) for k, foot in enumerate(loose)]
    ties = ties + [(foot, far[foot]) for foot in far if foot < far[foot]]
    return ((), below, boxes, tuple(sorted(ties)), ())


def looked_over(stock, rules):
    for graph, i, find, j, other in meetings(stock, rules):
        rows = [row_from(stock, graph, rules, (i, find)), row_from(stock, graph, rules, (j, other))]
        if is_two(stock, rules, ("two", graph, rows[0], rows[1])):
            return ("two", graph, rows[0], rows[1])
    return ("one",)


def row_from(stock, graph, rules, step):
    return (step,) + at_rest(stock, come_by(stock, graph, rules, (step,)), rules)[1]


def is_two(stock, rules, thing):
    if not isinstance(thing, tuple) or len(thing) != 4 or thing[0] != "two" or not is_graph(stock, thing[1]):
        return False
    one = come_by(stock, thing[1], rules, thing[2])
    other = come_by(stock, thing[1], rules, thing[3])
    if one is None or other is None:
        return False
    if first_step(stock, one, rules) is not None or first_step(stock, other, rules) is not None:
        return False
    return not are_alike(stock, one, other)

"""Graphs numbered otherwise, and the order in which boxes are come to along the ties."""

from slidewires.feet import sorts_of_feet


def far_feet(graph):
    # Told is a dict from each foot to the one it is tied to.
    far = {}
    for foot, other in graph[3]:
        far[foot] = other
        far[other] = foot
    return far


def feet_by_number(stock, graph):
    # Told is a dict from each box's number, and 0, to its feet, rising.
    feet = {}
    for number in range(len(graph[2]) + 1):
        feet[number] = []
    for foot in sorted(sorts_of_feet(stock, graph[0], graph[1], graph[2])):
        feet[foot[0]].append(foot)
    return feet


def come_to(start, far, feet):
    # Each foot has one tie, so from one start the whole order is settled.
    found = [start]
    seen = {start: True}
    done = 0
    while done < len(found):
        for foot in feet[found[done]]:
            number = far[foot][0]
            if number not in seen:
                seen[number] = True
                found.append(number)
        done = done + 1
    return found


def numbered(graph, order):
    # The box order[k] gets the number k + 1. The order holds all boxes that are tied.
    numbers = {0: 0}
    for k, old in enumerate(order, start=1):
        numbers[old] = k
    ties = []
    for foot, other in graph[3]:
        ties.append(tie_of((numbers[foot[0]],) + foot[1:], (numbers[other[0]],) + other[1:]))
    names = tuple([graph[2][old - 1] for old in order])
    return (graph[0], graph[1], names, tuple(sorted(ties)), graph[4])


def tie_of(foot, other):
    return (foot, other) if foot < other else (other, foot)

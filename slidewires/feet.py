"""The feet of a graph, each (number, side, i), number 0 being the picture itself."""

from slidewires.stocks import feet_of


def sorts_of_feet(stock, above, below, boxes):
    # Told is a dict from each foot to its sort.
    found = {}
    put_feet(found, 0, above, below)
    for number, name in enumerate(boxes, start=1):
        feet = feet_of(stock, name)
        put_feet(found, number, feet[0], feet[1])
    return found


def put_feet(found, number, above, below):
    for i, sort in enumerate(above):
        found[(number, "up", i)] = sort
    for i, sort in enumerate(below):
        found[(number, "down", i)] = sort


def is_giver(foot):
    # The picture's own feet above give into it, a box's feet below give out of it.
    return (foot[0] == 0) == (foot[1] == "up")

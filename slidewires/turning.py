"""Two layers that don't touch change turns."""

from slidewires.errors import NoSlide
from slidewires.steps import given_many, taken_many

BACK_SIDE = {"left": "right", "right": "left"}


def turn_change(stock, picture, at, side):
    if at + 1 == len(picture[1]):
        raise NoSlide("no layer stands behind this one")
    return (at, 2, turned(stock, picture[1][at], picture[1][at + 1], side))


def turned(stock, first, second, side):
    # Told are the two layers in their new order, each at the place where its wires are.
    given = given_many(stock, first[1])
    taken = taken_many(stock, second[1])
    if side == "right":
        if second[0] < first[0] + given:
            raise NoSlide("the second layer stands not wholly to the right")
        return ((second[0] - given + taken_many(stock, first[1]), second[1]), first)
    if second[0] + taken > first[0]:
        raise NoSlide("the second layer stands not wholly to the left")
    return (second, (first[0] - taken + given_many(stock, second[1]), first[1]))

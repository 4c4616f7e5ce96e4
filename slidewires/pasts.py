"""A box brought past a wire beside it, and put back."""

from slidewires.errors import NoSlide
from slidewires.pictures import count_at
from slidewires.steps import given_many, taken_many


def past_of(stock, box, side, wires):
    # The box's layer, and how many wires there are ahead of it; told are the layers that a past makes.
    place = box[0]
    taken = taken_many(stock, box[1])
    given = given_many(stock, box[1])
    if side == "right":
        if place + taken >= wires:
            raise NoSlide("no wire stands to the right of the box")
        above = list(range(place + taken - 1, place - 1, -1))
        below = list(range(place, place + given))
        return crossed_at(above) + ((place + 1, box[1]),) + crossed_at(below)
    if place == 0:
        raise NoSlide("no wire stands to the left of the box")
    above = list(range(place - 1, place - 1 + taken))
    below = list(range(place + given - 2, place - 2, -1))
    return crossed_at(above) + ((place - 1, box[1]),) + crossed_at(below)


def crossed_at(places):
    return tuple([(place, ("cross",)) for place in places])


def past_change(stock, picture, at, side):
    box = picture[1][at]
    if box[1][0] != "box":
        raise NoSlide("this layer is no box")
    return (at, 1, past_of(stock, box, side, count_at(stock, picture, at)))


def unpast_change(stock, picture, at, side):
    boxes = [layer for layer in picture[1][at:] if layer[1][0] == "box"]
    if boxes == []:
        raise NoSlide("no box stands there")
    moved = boxes[0]
    wires = count_at(stock, picture, at)
    box = (moved[0] - 1 if side == "right" else moved[0] + 1, moved[1])
    # A box without feet leaves no crossings that would tell of the wire: so its room is looked at.
    if not 0 <= box[0] <= wires:
        raise NoSlide("the box has no room there")
    made = past_of(stock, box, side, wires)
    if picture[1][at:at + len(made)] != made:
        raise NoSlide("no past of this side makes these layers")
    return (at, len(made), (box,))

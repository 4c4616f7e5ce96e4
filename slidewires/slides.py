"""Slides: each puts layers of a picture in the stead of others, and keeps its graph."""

from slidewires.errors import NoSlide
from slidewires.graphs import graph_of
from slidewires.names import is_whole
from slidewires.pasts import past_change, unpast_change
from slidewires.pictures import boxes_of, has_layer, is_picture, wires_at, with_layers
from slidewires.turning import BACK_SIDE, turn_change

SIDED = ("turn", "past", "unpast")


def slid(stock, picture, slide):
    change = change_by(stock, picture, slide)
    return with_layers(picture, change[0], change[1], change[2])


def back_slide(stock, picture, slide):
    change = change_by(stock, picture, slide)
    at = change[0]
    if slide[0] == "turn":
        return ("turn", at, BACK_SIDE[slide[2]])
    if slide[0] == "past":
        return ("unpast", at, slide[2])
    if slide[0] == "unpast":
        return ("past", at, slide[2])
    return ("wires", at, len(change[2]), picture[1][at:at + change[1]])


def change_by(stock, picture, slide):
    # Told is (at, many, layers): from at on so many layers give way to these.
    if not isinstance(slide, tuple) or slide == ():
        raise NoSlide("a slide is a tuple that begins with its kind")
    if slide[0] == "wires":
        return wires_change(stock, picture, slide)
    if slide[0] not in SIDED or len(slide) != 3:
        raise NoSlide("there is no such kind of slide")
    if not has_layer(picture, slide[1]):
        raise NoSlide("there is no such layer")
    if slide[2] not in ("left", "right"):
        raise NoSlide("there is no such side")
    if slide[0] == "turn":
        return turn_change(stock, picture, slide[1], slide[2])
    if slide[0] == "past":
        return past_change(stock, picture, slide[1], slide[2])
    return unpast_change(stock, picture, slide[1], slide[2])


def wires_change(stock, picture, slide):
    if len(slide) != 4 or not is_whole(slide[1]) or not is_whole(slide[2]):
        raise NoSlide("this slide has a layer's number, how many layers, and layers")
    at = slide[1]
    end = at + slide[2]
    if not 0 <= at <= end <= len(picture[1]):
        raise NoSlide("there are no such layers")
    wires = wires_at(stock, picture, at)
    old = (wires, picture[1][at:end])
    new = (wires, slide[3])
    if not is_picture(stock, new) or boxes_of(new) != ():
        raise NoSlide("the new layers don't fit, or bear boxes")
    # Old layers with boxes have another graph, too.
    if graph_of(stock, old) != graph_of(stock, new):
        raise NoSlide("the wires lead otherwise, or the rings are others")
    return (at, slide[2], slide[3])

"""Pictures: feet above, and layers from the top down."""

from slidewires.names import is_whole
from slidewires.steps import fits, given_many, is_layer, taken_many, wires_behind
from slidewires.stocks import is_sort_row


def is_picture(stock, thing):
    if not isinstance(thing, tuple) or len(thing) != 2:
        return False
    if not is_sort_row(thing[0], stock[1]) or not isinstance(thing[1], tuple):
        return False
    wires = thing[0]
    for layer in thing[1]:
        if not is_layer(stock, layer) or not fits(stock, wires, layer):
            return False
        wires = wires_behind(stock, wires, layer)
    return True


def wires_at(stock, picture, at):
    wires = picture[0]
    for layer in picture[1][:at]:
        wires = wires_behind(stock, wires, layer)
    return wires


def count_at(stock, picture, at):
    many = len(picture[0])
    for place, step in picture[1][:at]:
        many = many - taken_many(stock, step) + given_many(stock, step)
    return many


def below_of(stock, picture):
    return wires_at(stock, picture, len(picture[1]))


def boxes_of(picture):
    return tuple([step[1] for place, step in picture[1] if step[0] == "box"])


def has_layer(picture, thing):
    return is_whole(thing) and 0 <= thing < len(picture[1])


def with_layers(picture, at, many, layers):
    # From at on so many layers give way to these.
    return (picture[0], picture[1][:at] + layers + picture[1][at + many:])

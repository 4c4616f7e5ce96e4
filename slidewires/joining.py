"""Pictures put together."""

from slidewires.errors import NoFit
from slidewires.pictures import below_of
from slidewires.stocks import feet_of, has_box


def behind(stock, one, other):
    if below_of(stock, one) != other[0]:
        raise NoFit("the feet above are not the first picture's feet below")
    return (one[0], one[1] + other[1])


def beside(stock, one, other):
    by = len(below_of(stock, one))
    return (one[0] + other[0], one[1] + moved(other[1], by))


def moved(layers, by):
    return tuple([(place + by, step) for place, step in layers])


def crossed(stock, ones, others):
    if stock[0] == "braid":
        raise NoFit("a braid's wires have no plain crossings")
    layers = []
    # The rightmost wire goes first: so each of the ones meets the others alone.
    for start in range(len(ones) - 1, -1, -1):
        for place in range(start, start + len(others)):
            layers.append((place, ("cross",)))
    return (ones + others, tuple(layers))


def bent_up(stock, picture):
    below = below_of(stock, picture)
    check_bend(stock, below)
    cap = (len(below) - 1, ("cap",))
    return (picture[0] + below[-1:], picture[1] + (cap,))


def bent_down(stock, picture):
    above = picture[0]
    check_bend(stock, above)
    cup = (len(above) - 1, ("cup", above[-1]))
    return (above[:-1], (cup,) + picture[1])


def check_bend(stock, feet):
    if stock[0] != "bent":
        raise NoFit("wires are bent in bent stocks alone")
    if feet == ():
        raise NoFit("there is no foot to bend")


def filled(stock, picture, name, inner):
    if not has_box(stock, name):
        raise NoFit("the stock has no such box")
    if (inner[0], below_of(stock, inner)) != feet_of(stock, name):
        raise NoFit("the picture has not just the box's feet")
    layers = []
    for place, step in picture[1]:
        if step == ("box", name):
            layers.extend(moved(inner[1], place))
        else:
            layers.append((place, step))
    return (picture[0], tuple(layers))

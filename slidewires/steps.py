"""Steps: where each is allowed, and what it makes of the wires it stands on."""

from slidewires.names import is_whole
from slidewires.stocks import feet_of, has_box

STEP_MANNERS = {
    "box": ("loose", "bent"),
    "cross": ("loose", "bent"),
    "cup": ("bent",),
    "cap": ("bent",),
    "over": ("braid",),
    "under": ("braid",),
}


def is_step(stock, thing):
    if not isinstance(thing, tuple) or thing == ():
        return False
    kind = thing[0]
    # A list or a dict can't be looked up in a dict: so texts alone come that far.
    if not isinstance(kind, str) or kind not in STEP_MANNERS:
        return False
    if stock[0] not in STEP_MANNERS[kind]:
        return False
    if kind == "box":
        return len(thing) == 2 and has_box(stock, thing[1])
    if kind == "cup":
        return len(thing) == 2 and thing[1] in stock[1]
    return len(thing) == 1


def is_layer(stock, thing):
    if not isinstance(thing, tuple) or len(thing) != 2:
        return False
    return is_whole(thing[0]) and thing[0] >= 0 and is_step(stock, thing[1])


def fits(stock, wires, layer):
    place = layer[0]
    step = layer[1]
    taken = wires[place:place + taken_many(stock, step)]
    if step[0] == "box":
        return place <= len(wires) and taken == feet_of(stock, step[1])[0]
    if step[0] == "cup":
        return place <= len(wires)
    if step[0] == "cap":
        return len(taken) == 2 and taken[0] == taken[1]
    return len(taken) == 2


def wires_behind(stock, wires, layer):
    place = layer[0]
    end = place + taken_many(stock, layer[1])
    given = given_by(stock, wires[place:end], layer[1])
    return wires[:place] + given + wires[end:]


def taken_many(stock, step):
    if step[0] == "box":
        return len(feet_of(stock, step[1])[0])
    return 0 if step[0] == "cup" else 2


def given_by(stock, taken, step):
    if step[0] == "box":
        return feet_of(stock, step[1])[1]
    if step[0] == "cup":
        return (step[1], step[1])
    if step[0] == "cap":
        return ()
    return (taken[1], taken[0])


def given_many(stock, step):
    if step[0] == "box":
        return len(feet_of(stock, step[1])[1])
    return 0 if step[0] == "cap" else 2

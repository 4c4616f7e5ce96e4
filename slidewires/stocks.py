"""Stocks: a manner, the sorts of wires, the boxes with their feet."""

from slidewires.names import is_name

MANNERS = ("loose", "bent", "braid")
MOST_SORTS = 4
MOST_BOXES = 8
MOST_FEET = 4


def is_stock(thing):
    if not isinstance(thing, tuple) or len(thing) != 3:
        return False
    if thing[0] not in MANNERS or not are_sorts(thing[1]):
        return False
    if not are_boxes(thing[2], thing[1]):
        return False
    return thing[0] != "braid" or thing[2] == ()


def are_sorts(thing):
    if not isinstance(thing, tuple) or not 1 <= len(thing) <= MOST_SORTS:
        return False
    return are_unlike_names(thing)


def are_boxes(thing, sorts):
    if not isinstance(thing, tuple) or len(thing) > MOST_BOXES:
        return False
    if not all([is_box(box, sorts) for box in thing]):
        return False
    return are_unlike_names([box[0] for box in thing])


def are_unlike_names(things):
    return all([is_name(thing) for thing in things]) and len(set(things)) == len(things)


def is_box(thing, sorts):
    if not isinstance(thing, tuple) or len(thing) != 3:
        return False
    return are_feet(thing[1], sorts) and are_feet(thing[2], sorts)


def are_feet(thing, sorts):
    return is_sort_row(thing, sorts) and len(thing) <= MOST_FEET


def is_sort_row(thing, sorts):
    return isinstance(thing, tuple) and all([part in sorts for part in thing])


def has_box(stock, name):
    return name in [box[0] for box in stock[2]]


def feet_of(stock, name):
    found = [box for box in stock[2] if box[0] == name]
    return (found[0][1], found[0][2])

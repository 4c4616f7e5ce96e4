"""The small checker: whether something is a paper, or a measure, whoever wrote it."""

from slidewires.errors import NoSlide
from slidewires.feet import sorts_of_feet
from slidewires.fewest import least_matching, turned_pairs
from slidewires.graphs import graph_of, is_foot, is_graph, rings_of
from slidewires.names import is_whole
from slidewires.slides import slid
from slidewires.spelling import heaps_of
from slidewires.ways import Ways


def walks(stock, one, other, thing):
    walked = walked_by(stock, one, thing)
    return walked is not None and walked[0] == other


def has_fewest(stock, one, other, thing):
    walked = walked_by(stock, one, thing)
    if walked is None or walked[0] != other:
        return False
    matching = least_matching(stock, graph_of(stock, one), graph_of(stock, other))
    return walked[1] == turned_pairs(matching)


def turns_in(stock, picture, paper):
    return walked_by(stock, picture, paper)[1]


def walked_by(stock, picture, thing):
    # Told is (the picture come to, turns of two boxes), or None where it can't be walked.
    if not isinstance(thing, tuple):
        return None
    turns = 0
    for slide in thing:
        then = slid_or_none(stock, picture, slide)
        if then is None:
            return None
        if slide[0] == "turn" and are_boxes(picture[1][slide[1]:slide[1] + 2]):
            turns = turns + 1
        picture = then
    return (picture, turns)


def slid_or_none(stock, picture, slide):
    try:
        return slid(stock, picture, slide)
    except NoSlide:
        return None


def are_boxes(layers):
    return all([step[0] == "box" for place, step in layers])


def is_measure(stock, one, other, thing):
    if not isinstance(thing, tuple) or thing == ():
        return False
    ones = graph_of(stock, one)
    others = graph_of(stock, other)
    if ones[:2] != others[:2]:
        return thing == ("feet",)
    if thing[0] == "way":
        return is_way(stock, ones, others, thing)
    if len(thing) != 4 or not is_whole(thing[2]) or not is_whole(thing[3]) or thing[2] == thing[3]:
        return False
    if thing[0] == "rings":
        return thing[2:] == (rings_of(ones, thing[1]), rings_of(others, thing[1]))
    # The numbers are unlike, so one is above 0: then the graph is a heap that is told there, spelled.
    if thing[0] == "heaps" and is_graph(stock, thing[1]):
        return thing[2:] == (heaps_of(stock, ones).count(thing[1]), heaps_of(stock, others).count(thing[1]))
    return False


def is_way(stock, ones, others, thing):
    if len(thing) != 5 or not isinstance(thing[2], tuple):
        return False
    if not is_told_foot(thing[3]) or not is_told_foot(thing[4]) or thing[3] == thing[4]:
        return False
    if not is_foot(thing[1], sorts_of_feet(stock, ones[0], ones[1], ())):
        return False
    one = Ways(ones)
    other = Ways(others)
    feet = sorts_of_feet(stock, (), (), ones[2])
    here = one.far[thing[1]]
    there = other.far[thing[1]]
    for step in thing[2]:
        if here[0] == 0 or one.told_of(here) != other.told_of(there) or not isinstance(step, tuple):
            return False
        if not is_foot((here[0],) + step, feet):
            return False
        here = one.far[(here[0],) + step]
        there = other.far[(there[0],) + step]
    return (one.told_of(here), other.told_of(there)) == thing[3:]


def is_told_foot(thing):
    # Python takes True for 1: so the number is looked at by itself.
    return isinstance(thing, tuple) and len(thing) == 3 and is_whole(thing[2])

"""Two pictures compared: alike, by a paper, or unlike, by a measure."""

from slidewires.graphs import graph_of, rings_of
from slidewires.numbering import feet_by_number
from slidewires.papers import paper_for
from slidewires.spelling import heaps_of
from slidewires.ways import Ways


def compared(stock, one, other):
    measure = measure_for(stock, one, other)
    if measure is None:
        return ("alike", paper_for(stock, one, other))
    return ("unlike", measure)


def measure_for(stock, one, other):
    ones = graph_of(stock, one)
    others = graph_of(stock, other)
    if ones[:2] != others[:2]:
        return ("feet",)
    measure = way_for(stock, ones, others)
    if measure is None:
        measure = rings_for(stock, ones, others)
    if measure is None:
        measure = heaps_for(stock, ones, others)
    return measure


def way_for(stock, ones, others):
    # All ways at once, the shorter ones first; from two boxes that were come to before none goes on.
    one = Ways(ones)
    other = Ways(others)
    feet = feet_by_number(stock, ones)
    ways = [(foot, (), one.far[foot], other.far[foot]) for foot in feet[0]]
    seen = {(0, 0): True}
    done = 0
    while done < len(ways):
        way = ways[done]
        here = way[2]
        there = way[3]
        if one.told_of(here) != other.told_of(there):
            return ("way", way[0], way[1], one.told_of(here), other.told_of(there))
        if (here[0], there[0]) not in seen:
            seen[(here[0], there[0])] = True
            for foot in feet[here[0]]:
                ways.append((way[0], way[1] + (foot[1:],), one.far[foot], other.far[(there[0],) + foot[1:]]))
        done = done + 1
    return None


def rings_for(stock, ones, others):
    for sort in stock[1]:
        many = rings_of(ones, sort)
        more = rings_of(others, sort)
        if many != more:
            return ("rings", sort, many, more)
    return None


def heaps_for(stock, ones, others):
    here = heaps_of(stock, ones)
    there = heaps_of(stock, others)
    for heap in sorted(here + there):
        if here.count(heap) != there.count(heap):
            return ("heaps", heap, here.count(heap), there.count(heap))
    return None

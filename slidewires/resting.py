"""Graphs brought to rest by rules, and rows of rules done."""

from slidewires.errors import NoFind
from slidewires.finds import done, finds
from slidewires.graphs import is_graph
from slidewires.names import is_whole


def at_rest(stock, graph, rules):
    row = []
    step = first_step(stock, graph, rules)
    while step is not None:
        row.append(step)
        graph = done(stock, graph, rules[step[0]], step[1])
        step = first_step(stock, graph, rules)
    return (graph, tuple(row))


def first_step(stock, graph, rules):
    for number, rule in enumerate(rules):
        found = finds(stock, graph, rule)
        if found != ():
            return (number, found[0])
    return None


def is_row(stock, graph, rules, thing, end):
    # Python takes True for 1: so the end is looked at by itself.
    return is_graph(stock, end) and come_by(stock, graph, rules, thing) == end


def come_by(stock, graph, rules, thing):
    # Told is the graph come to, or None where it is no row.
    if not isinstance(thing, tuple):
        return None
    for step in thing:
        graph = come_by_step(stock, graph, rules, step)
        if graph is None:
            return None
    return graph


def come_by_step(stock, graph, rules, step):
    if not isinstance(step, tuple) or len(step) != 2:
        return None
    if not is_whole(step[0]) or not 0 <= step[0] < len(rules):
        return None
    try:
        return done(stock, graph, rules[step[0]], step[1])
    except NoFind:
        return None

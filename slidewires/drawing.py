"""Graphs drawn as pictures, and the plain form of a picture."""

from slidewires.graphs import giver_to_taker, graph_of
from slidewires.laying import laid, ring_layers
from slidewires.numbering import numbered
from slidewires.rows import Rows
from slidewires.spelling import spelled


def plain(stock, picture):
    return drawn(stock, spelled(stock, graph_of(stock, picture)))


def drawn(stock, graph):
    if stock[0] == "loose":
        graph = numbered(graph, givers_first(graph))
    rows = Rows(stock, graph)
    layers = []
    for number, name in enumerate(graph[2], start=1):
        layers.extend(laid(rows.after(number - 1), rows.ahead(number), rows.sorts))
        layers.append((0, ("box", name)))
    last = len(graph[2])
    layers.extend(laid(rows.after(last), rows.ahead(last + 1), rows.sorts))
    layers.extend(ring_layers(graph[4]))
    return (graph[0], tuple(layers))


def givers_first(graph):
    ways = [giver_to_taker(foot, other) for foot, other in graph[3]]
    left = list(range(1, len(graph[2]) + 1))
    order = []
    while left:
        waiting = [taker for giver, taker in ways if giver in left]
        order.append([number for number in left if number not in waiting][0])
        left.remove(order[-1])
    return order

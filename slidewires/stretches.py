"""Stretches of layers without boxes: which wires they lead where."""

from slidewires.graphs import graph_of
from slidewires.laying import ring_layers
from slidewires.numbering import far_feet, tie_of
from slidewires.pictures import wires_at


class Stretch:
    # The layers behind the box of this number (0: from the top), up to the next box or the end.
    # top and bottom are the rows ahead of them and behind them, each wire known by its tie in the stretch.
    def __init__(self, stock, picture, number):
        boxes = [k for k, layer in enumerate(picture[1]) if layer[1][0] == "box"]
        starts = [0] + [k + 1 for k in boxes]
        ends = boxes + [len(picture[1])]
        self.begin = starts[number]
        self.old = picture[1][self.begin:ends[number]]
        graph = graph_of(stock, (wires_at(stock, picture, self.begin), self.old))
        far = far_feet(graph)
        feet = [(0, "up", i) for i in range(len(graph[0]))]
        self.top = [tie_of(foot, far[foot]) for foot in feet]
        feet = [(0, "down", i) for i in range(len(graph[1]))]
        self.bottom = [tie_of(foot, far[foot]) for foot in feet]
        self.sorts = dict(zip(self.top + self.bottom, graph[0] + graph[1]))
        self.rings = ring_layers(graph[4])

    def put(self, walk, layers):
        # Other layers in the stead of the stretch.
        if layers != self.old:
            walk.slide(("wires", self.begin, len(self.old), layers))

"""Going along the ties of a graph."""

from slidewires.numbering import far_feet


class Ways:
    # far tells, of each foot, the one its tie leads to.
    def __init__(self, graph):
        self.names = ("",) + graph[2]
        self.far = far_feet(graph)

    def told_of(self, foot):
        return (self.names[foot[0]],) + foot[1:]

"""All boxes brought to place 0, each past the wires to its left."""

from slidewires.walking import Walk


def fronted(stock, picture):
    walk = Walk(stock, picture)
    bring_to_front(walk)
    return (walk.here(), walk.paper())


def bring_to_front(walk):
    at = 0
    while at < len(walk.layers()):
        layer = walk.layers()[at]
        if layer[1][0] == "box":
            at = walk.shift(at, layer[0], "left")
        at = at + 1

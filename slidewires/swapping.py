"""Two neighbouring boxes changed by one turn of two boxes."""

from slidewires.errors import NoFit
from slidewires.graphs import giver_to_taker, graph_of
from slidewires.joining import crossed, moved
from slidewires.laying import laid
from slidewires.pictures import boxes_of
from slidewires.stocks import feet_of
from slidewires.stretches import Stretch
from slidewires.walking import Walk


def swapped(stock, picture, k):
    if not 1 <= k < len(boxes_of(picture)):
        raise NoFit("there are no two such boxes")
    if stock[0] == "loose" and gives_to_next(stock, picture, k):
        raise NoFit("the first of the two boxes gives to the second")
    walk = Walk(stock, picture)
    swap(walk, k)
    return (walk.here(), walk.paper())


def gives_to_next(stock, picture, k):
    ties = graph_of(stock, picture)[3]
    return (k, k + 1) in [giver_to_taker(foot, other) for foot, other in ties]


def swap(walk, k):
    # What the second box takes is led down beside what the first one gives, so that the boxes
    # can stand side by side; what else is laid between them goes above both or below both.
    boxes = boxes_of(walk.here())
    first = feet_of(walk.stock, boxes[k - 1])
    second = feet_of(walk.stock, boxes[k])
    given = len(first[1])
    taken = len(second[0])
    stretch = Stretch(walk.stock, walk.here(), k)
    passing = passing_ties(stretch.top[given:], stretch.bottom[:taken])
    upper = moved(laid(stretch.top[given:], stretch.bottom[:taken] + passing, stretch.sorts), given)
    lower = laid(stretch.top[:given] + passing, stretch.bottom[taken:], stretch.sorts) + stretch.rings
    to_front = crossed(walk.stock, first[1], second[0])[1]
    stretch.put(walk, upper + to_front + moved(lower, taken))
    walk.lift(stretch.begin + len(upper) + len(to_front) + len(lower), len(lower))
    walk.shift(stretch.begin + len(upper) + len(to_front), given, "right")
    Stretch(walk.stock, walk.here(), k).put(walk, upper)
    walk.sink(stretch.begin - 1, len(upper))
    at = stretch.begin - 1 + len(upper)
    walk.slide(("turn", at, "right"))
    walk.shift(at, len(first[0]), "left")


def passing_ties(beside, wanted):
    # Those ties that have one end among the wires beside the first box or those that the second takes.
    both = beside + wanted
    return [tie for tie in both if both.count(tie) == 1]

"""Wires settled: the picture that its own graph, drawn, is.

From below, bends are pulled up past the boxes, till each wire beside a box leads down to a foot.
Then, from the top down, the wires of each stretch are laid as they are drawn; what is left of the
stretch, to the right of the next box, is turned past this box and laid with the stretch behind it.
"""

from slidewires.graphs import graph_of
from slidewires.joining import moved
from slidewires.laying import laid
from slidewires.pictures import boxes_of
from slidewires.rows import Rows
from slidewires.stocks import feet_of
from slidewires.stretches import Stretch
from slidewires.walking import Walk


def settled(stock, picture):
    walk = Walk(stock, picture)
    settle(walk)
    return (walk.here(), walk.paper())


def settle(walk):
    boxes = boxes_of(walk.here())
    for number in range(len(boxes), 0, -1):
        pull_bends_up(walk, number, len(feet_of(walk.stock, boxes[number - 1])[1]))
    rows = Rows(walk.stock, graph_of(walk.stock, walk.here()))
    for number in range(len(boxes)):
        lay_ahead_of_box(walk, rows, number, len(feet_of(walk.stock, boxes[number])[0]))
    stretch = Stretch(walk.stock, walk.here(), len(boxes))
    stretch.put(walk, laid(rows.after(len(boxes)), rows.ahead(len(boxes) + 1), rows.sorts) + stretch.rings)


def pull_bends_up(walk, number, given):
    stretch = Stretch(walk.stock, walk.here(), number)
    beside = stretch.top[given:]
    left = [tie for tie in beside if beside.count(tie) == 1]
    if left == beside:
        return
    bends = laid(beside, left, stretch.sorts)
    rest = laid(stretch.top[:given] + left, stretch.bottom, stretch.sorts)
    stretch.put(walk, moved(bends, given) + rest + stretch.rings)
    walk.sink(stretch.begin - 1, len(bends))


def lay_ahead_of_box(walk, rows, number, taken):
    stretch = Stretch(walk.stock, walk.here(), number)
    top = rows.after(number)
    ahead = rows.ahead(number + 1)
    labels = dict(list(zip(stretch.top, top)) + list(zip(stretch.bottom[:taken], ahead[:taken])))
    sorts = dict(stretch.sorts)
    sorts.update(rows.sorts)
    # Two ends beside the box that lead to one another keep the stretch's own label.
    beside = [labels.get(tie, tie) for tie in stretch.bottom[taken:]]
    rest = laid(ahead[taken:], beside, sorts) + stretch.rings
    drawn_part = laid(top, ahead, sorts)
    stretch.put(walk, drawn_part + moved(rest, taken))
    walk.lift(stretch.begin + len(drawn_part) + len(rest), len(rest))

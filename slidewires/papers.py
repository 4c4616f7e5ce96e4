"""A paper from a picture to an alike one, with the fewest turns."""

from slidewires.fewest import least_matching
from slidewires.fronting import bring_to_front
from slidewires.graphs import graph_of
from slidewires.settling import settle
from slidewires.slides import back_slide
from slidewires.swapping import swap
from slidewires.walking import Walk


def paper_for(stock, one, other):
    matching = least_matching(stock, graph_of(stock, one), graph_of(stock, other))
    if matching is None:
        return None
    there = Walk(stock, one)
    bring_to_front(there)
    settle(there)
    order_boxes(there, list(matching))
    back = Walk(stock, other)
    bring_to_front(back)
    settle(back)
    return joined(there, back)


def order_boxes(walk, order):
    k = 1
    while k < len(order):
        if order[k - 1] > order[k]:
            swap(walk, k)
            settle(walk)
            order = order[:k - 1] + [order[k], order[k - 1]] + order[k + 1:]
            k = max(k - 1, 1)
        else:
            k = k + 1


def joined(there, back):
    # The two ways come to one picture at the end; they may have met before.
    steps_back = {}
    for k, picture in enumerate(back.pictures):
        steps_back.setdefault(picture, k)
    meets = [k for k, picture in enumerate(there.pictures) if picture in steps_back]
    meet = min(meets, key=lambda k: k + steps_back[there.pictures[k]])
    paper = there.slides[:meet]
    for step in range(steps_back[there.pictures[meet]] - 1, -1, -1):
        paper.append(back_slide(back.stock, back.pictures[step], back.slides[step]))
    return tuple(paper)

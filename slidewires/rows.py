"""The rows of wires in a drawn picture: which ties stand ahead of each box, and behind it.

A spot is (number, half, i): half 0 are the feet that a box takes, half 1 those that it gives.
The picture's feet above are given by a number 0, those below are taken by the number behind
the last box. So all feet stand one behind the other, as they come from the top down.
"""

from slidewires.feet import sorts_of_feet


class Rows:
    # The ties are pairs of spots, the upper one first; sorts tells each one's sort.
    def __init__(self, stock, graph):
        last = len(graph[2]) + 1
        feet = sorts_of_feet(stock, graph[0], graph[1], graph[2])
        self.sorts = {}
        self.by_spot = {}
        for foot, other in graph[3]:
            one = spot_of(foot, last)
            two = spot_of(other, last)
            tie = (min(one, two), max(one, two))
            self.sorts[tie] = feet[foot]
            self.by_spot[one] = tie
            self.by_spot[two] = tie

    def ahead(self, number):
        return self.feet_row(number, 0) + self.passing(number)

    def after(self, number):
        return self.feet_row(number, 1) + self.passing(number)

    def feet_row(self, number, half):
        spots = [spot for spot in self.by_spot if spot[:2] == (number, half)]
        return [self.by_spot[spot] for spot in sorted(spots)]

    def passing(self, number):
        # By where they lead to: so those that the coming boxes take stand foremost.
        between = [tie for tie in self.sorts if tie[0] < (number, 1) <= tie[1]]
        return sorted(between, key=lambda tie: tie[1])


def spot_of(foot, last):
    if foot[0] == 0:
        return (0, 1, foot[2]) if foot[1] == "up" else (last, 0, foot[2])
    return (foot[0], 0 if foot[1] == "up" else 1, foot[2])

"""A picture that is slid on and on, with the paper of it."""

from slidewires.slides import slid
from slidewires.steps import taken_many


class Walk:
    # pictures: the one begun with, then the one behind each slide.
    def __init__(self, stock, picture):
        self.stock = stock
        self.pictures = [picture]
        self.slides = []

    def here(self):
        return self.pictures[-1]

    def layers(self):
        return self.pictures[-1][1]

    def slide(self, one):
        self.pictures.append(slid(self.stock, self.pictures[-1], one))
        self.slides.append(one)

    def paper(self):
        return tuple(self.slides)

    def lift(self, at, many):
        # The box at this layer, up past so many layers that stand to its right.
        for k in range(many):
            self.slide(("turn", at - 1 - k, "left"))

    def sink(self, at, many):
        # The box at this layer, down past so many layers that stand to its right.
        for k in range(many):
            self.slide(("turn", at + k, "right"))

    def shift(self, at, many, side):
        # The box at this layer, past so many wires; told is the layer at which it then stands.
        ahead = taken_many(self.stock, self.layers()[at][1])
        for k in range(many):
            self.slide(("past", at + k * ahead, side))
        return at + many * ahead

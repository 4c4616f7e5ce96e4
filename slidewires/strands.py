"""Wires followed through the layers of a picture."""


class Strands:
    # Of each wire both ends are known: feet, or numbers as long as an end
    # hangs in the row and may still be led on. far tells an end's other end.
    def __init__(self):
        self.row = []
        self.far = {}
        self.made = 0
        self.rings = {}

    def new_end(self):
        self.made = self.made + 1
        return self.made

    def tie(self, one, other):
        self.far[one] = other
        self.far[other] = one

    def put_row(self, place, taken, ends):
        self.row = self.row[:place] + ends + self.row[place + taken:]

    def take(self, place, feet):
        for foot, end in zip(feet, self.row[place:place + len(feet)]):
            self.tie(self.far[end], foot)
        self.put_row(place, len(feet), [])

    def give(self, place, feet):
        ends = []
        for foot in feet:
            end = self.new_end()
            self.tie(end, foot)
            ends.append(end)
        self.put_row(place, 0, ends)

    def exchange(self, place):
        self.put_row(place, 2, [self.row[place + 1], self.row[place]])

    def bend_down(self, place):
        one = self.new_end()
        other = self.new_end()
        self.tie(one, other)
        self.put_row(place, 0, [one, other])

    def bend_up(self, place, sort):
        self.join_ends(self.row[place], self.row[place + 1], sort)
        self.put_row(place, 2, [])

    def join_ends(self, one, other, sort):
        if self.far[one] == other:
            self.add_rings(sort, 1)
        else:
            self.tie(self.far[one], self.far[other])

    def add_rings(self, sort, many):
        self.rings[sort] = self.rings.get(sort, 0) + many

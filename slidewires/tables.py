"""Pictures read as tables, layer by layer."""

from slidewires.errors import TooWide
from slidewires.steps import given_by, taken_many, wires_behind

MOST_TUPLES = 81


def read_table(stock, filling, picture):
    check_width(stock, filling[0], picture)
    wires = picture[0]
    many = tuples_many(stock, filling[0], wires)
    rows = [[1 if below == above else 0 for below in range(many)] for above in range(many)]
    for layer in picture[1]:
        moves = moves_of(stock, filling, wires, layer)
        wires = wires_behind(stock, wires, layer)
        many = tuples_many(stock, filling[0], wires)
        rows = [row_behind(row, moves, many) for row in rows]
    return tuple([tuple(row) for row in rows])


def check_width(stock, sizes, picture):
    wires = picture[0]
    widths = [tuples_many(stock, sizes, wires)]
    for layer in picture[1]:
        wires = wires_behind(stock, wires, layer)
        widths.append(tuples_many(stock, sizes, wires))
    for many in widths:
        if many > MOST_TUPLES:
            raise TooWide(many)


def size_of(stock, sizes, sort):
    return sizes[stock[1].index(sort)]


def tuples_many(stock, sizes, sorts):
    many = 1
    for sort in sorts:
        many = many * size_of(stock, sizes, sort)
    return many


def row_behind(row, moves, many):
    new = [0] * many
    for old, then, number in moves:
        # Most of a row is 0 where wires only cross or bend.
        if row[old] != 0:
            new[then] = new[then] + row[old] * number
    return new


def moves_of(stock, filling, wires, layer):
    # Told is (place in a row ahead, place in the row behind, number), for each number of the step but 0.
    # The place of a tuple of worths among all is a number whose figures they are, the last changing first.
    place = layer[0]
    end = place + taken_many(stock, layer[1])
    taken = wires[place:end]
    here = tuples_many(stock, filling[0], taken)
    there = tuples_many(stock, filling[0], given_by(stock, taken, layer[1]))
    left = tuples_many(stock, filling[0], wires[:place])
    right = tuples_many(stock, filling[0], wires[end:])
    moves = []
    for old, then, number in numbers_of(stock, filling, taken, layer[1]):
        for one in range(left):
            for other in range(right):
                moves.append(((one * here + old) * right + other, (one * there + then) * right + other, number))
    return moves


def numbers_of(stock, filling, taken, step):
    # Told is (place of the worths taken, place of those given, number), for each number but 0.
    if step[0] == "box":
        return numbers_in(filling[1][[box[0] for box in stock[2]].index(step[1])])
    if step[0] == "cup":
        size = size_of(stock, filling[0], step[1])
        return [(0, worth * size + worth, 1) for worth in range(size)]
    size = size_of(stock, filling[0], taken[0])
    if step[0] == "cap":
        return [(worth * size + worth, 0, 1) for worth in range(size)]
    width = size_of(stock, filling[0], taken[1])
    numbers = []
    for one in range(size):
        numbers.extend([(one * width + other, other * size + one, 1) for other in range(width)])
    return numbers


def numbers_in(table):
    numbers = []
    for old, row in enumerate(table):
        numbers.extend([(old, then, number) for then, number in enumerate(row) if number != 0])
    return numbers

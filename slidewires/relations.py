"""Pictures read as relations: a relation is a table of 1 and 0, read as what is not 0."""

from slidewires.pictures import below_of, boxes_of
from slidewires.tables import read_table, size_of


def read_relation(stock, filling, picture):
    sizes = filling[0]
    used = boxes_of(picture)
    tables = []
    for box, relation in zip(stock[2], filling[1]):
        # Tables may be great: none is made that isn't looked at.
        tables.append(table_of(stock, sizes, box, relation) if box[0] in used else ())
    table = read_table(stock, (sizes, tuple(tables)), picture)
    belows = worths_of(stock, sizes, below_of(stock, picture))
    pairs = []
    for above, row in zip(worths_of(stock, sizes, picture[0]), table):
        # No box tells a number below 0: so nothing goes out against another thing in a sum.
        pairs.extend([(above, below) for below, number in zip(belows, row) if number != 0])
    return tuple(pairs)


def worths_of(stock, sizes, sorts):
    # All tuples of worths, the last worth changing first: so they rise.
    found = [()]
    for sort in sorts:
        longer = []
        for worths in found:
            longer.extend([worths + (worth,) for worth in range(size_of(stock, sizes, sort))])
        found = longer
    return found


def table_of(stock, sizes, box, relation):
    told = {}
    for pair in relation:
        told[pair] = 1
    belows = worths_of(stock, sizes, box[2])
    rows = []
    for above in worths_of(stock, sizes, box[1]):
        rows.append(tuple([told.get((above, below), 0) for below in belows]))
    return tuple(rows)

"""What the document says, told anew in the plainest way, however slow: to hold the program against."""

import itertools

from samples import behind_layer, same
from slidewires.graphs import graph_of

SIDES = ("left", "right")


def up(number, i):
    return (number, "up", i)


def down(number, i):
    return (number, "down", i)


def ties(*pairs):
    return tuple(sorted(tuple(sorted(pair)) for pair in pairs))


def gives(foot):
    return foot[1] == ("up" if foot[0] == 0 else "down")


def sorts_of_feet(stock, graph):
    feet = {name: (above, below) for name, above, below in stock[2]}
    found = {}
    for number, (above, below) in enumerate([(graph[0], graph[1])] + [feet[name] for name in graph[2]]):
        found.update({(number, "up", i): sort for i, sort in enumerate(above)})
        found.update({(number, "down", i): sort for i, sort in enumerate(below)})
    return found


# Graphs

def numbered_otherwise(graph, order):
    """The same graph, its box number order[k] being number k + 1."""
    numbers = {0: 0}
    for k, old in enumerate(order):
        numbers[old] = k + 1
    tied = ties(*[tuple((numbers[number], side, i) for number, side, i in tie) for tie in graph[3]])
    return (graph[0], graph[1], tuple(graph[2][old - 1] for old in order), tied, graph[4])


def all_numberings(graph):
    """Each order of the boxes with the graph it makes."""
    for order in itertools.permutations(range(1, len(graph[2]) + 1)):
        yield order, numbered_otherwise(graph, order)


def all_matchings(one, other):
    if len(one[2]) != len(other[2]):
        return ()
    found = []
    for order, graph in all_numberings(one):
        if graph == other:
            # order tells, for each number in the other, the box of the one; the matching tells the opposite.
            found.append(tuple(order.index(number) + 1 for number in range(1, len(order) + 1)))
    return tuple(sorted(found))


def turned_pairs(matching):
    return sum(one > other for one, other in itertools.combinations(matching, 2))


def fewest_turns(one, other):
    return min(turned_pairs(matching) for matching in all_matchings(one, other))


def parts(graph):
    """The sets of box numbers that hang together; 0, the picture's own, is in one of them."""
    left = [{number} for number in range(len(graph[2]) + 1)]
    for foot, other in graph[3]:
        met = [part for part in left if foot[0] in part or other[0] in part]
        left = [part for part in left if part not in met] + [set().union(*met)]
    return left


def heaps(graph):
    """Each heap as a graph without feet and rings, its boxes in their order."""
    found = []
    for part in parts(graph):
        if 0 not in part:
            numbers = {old: k + 1 for k, old in enumerate(sorted(part))}
            inner = [tie for tie in graph[3] if tie[0][0] in part]
            tied = ties(*[tuple((numbers[number], side, i) for number, side, i in tie) for tie in inner])
            found.append(((), (), tuple(graph[2][old - 1] for old in sorted(part)), tied, ()))
    return found


def givers_first(graph):
    """The order of boxes that a loose graph is drawn in."""
    ahead = {number: set() for number in range(1, len(graph[2]) + 1)}
    for foot, other in graph[3]:
        giver, taker = (foot, other) if gives(foot) else (other, foot)
        if giver[0] and taker[0]:
            ahead[taker[0]].add(giver[0])
    order = []
    while len(order) < len(ahead):
        order.append(min(number for number in ahead if number not in order and ahead[number] <= set(order)))
    return order


def chance_graph(stock, chance, most_boxes=5, most_feet=3):
    """Boxes by chance, and their feet tied by chance: in bent stocks in any way that the sorts let."""
    names = [box[0] for box in stock[2]]
    boxes = tuple(chance.choice(names) for _ in range(chance.randrange(most_boxes + 1)))
    above, below = ([chance.choice(stock[1]) for _ in range(chance.randrange(most_feet + 1))] for _ in range(2))
    pairs = []
    for sort in stock[1]:
        feet = sorts_of_feet(stock, (above, below, boxes))
        some = [foot for foot in feet if feet[foot] == sort]
        if len(some) % 2:
            some.append(down(0, len(below)))
            below.append(sort)
        chance.shuffle(some)
        pairs += zip(some[::2], some[1::2])
    many = [(sort, chance.randrange(3)) for sort in stock[1]]
    return (tuple(above), tuple(below), boxes, ties(*pairs), tuple(ring for ring in many if ring[1]))


def tied_otherwise(stock, graph, chance):
    """Two ties of one sort give way to two others."""
    feet = sorts_of_feet(stock, graph)
    pairs = [pair for pair in itertools.combinations(graph[3], 2) if feet[pair[0][0]] == feet[pair[1][0]]]
    if not pairs:
        return graph
    (one, two), (three, four) = pair = chance.choice(pairs)
    return graph[:3] + (ties((one, four), (three, two), *[tie for tie in graph[3] if tie not in pair]),) + graph[4:]


# Slides

def sizes(stock, step):
    if step[0] == "box":
        above, below = {box[0]: box[1:] for box in stock[2]}[step[1]]
        return len(above), len(below)
    return {"cross": (2, 2), "cup": (0, 2), "cap": (2, 0)}[step[0]]


def rows_of(stock, picture):
    """The wires ahead of each layer and at the end, or None where it is no picture."""
    rows = [picture[0]]
    for place, step in picture[1]:
        then = behind_layer(stock, rows[-1], place, step)
        if then is None:
            return None
        rows.append(then)
    return rows


def turned_anew(stock, row, first, second, side):
    """By wires that each have a number: who stands left of whom before and behind."""
    takes, makes = sizes(stock, first[1])
    takes_then, makes_then = sizes(stock, second[1])
    wires = list(range(len(row)))
    taken = wires[first[0]:first[0] + takes]
    given = [100 + i for i in range(makes)]
    between = wires[:first[0]] + given + wires[first[0] + takes:]
    taken_then = between[second[0]:second[0] + takes_then]
    left_of_first, right_of_first = wires[:first[0]], wires[first[0] + takes:]
    left_then, right_then = between[:second[0]], between[second[0] + takes_then:]
    if side == "right":
        if not set(left_of_first + given) <= set(left_then) or set(taken_then) & set(given):
            return None
        return ((len([wire for wire in left_then if wire not in given] + taken), second[1]), first)
    if not set(given + right_of_first) <= set(right_then) or set(taken_then) & set(given):
        return None
    return (second, (len([wire for wire in left_of_first if wire not in taken_then]) + makes_then, first[1]))


def past_anew(stock, row, layer, side):
    """The wire is moved on, crossing by crossing, till it stands beside the box on the other side."""
    place, step = layer
    takes, makes = sizes(stock, step)
    wire = place + takes if side == "right" else place - 1
    if step[0] != "box" or not 0 <= wire < len(row):
        return None
    way = -1 if side == "right" else 1
    box = place - way
    above, below = [], []
    for _ in range(takes):
        above.append((min(wire, wire + way), ("cross",)))
        wire += way
    wire = place if side == "right" else box + makes
    for _ in range(makes):
        below.append((min(wire, wire - way), ("cross",)))
        wire -= way
    return tuple(above) + ((box, step),) + tuple(below)


def is_number(thing):
    return type(thing) is int


def slid_anew(stock, picture, slide):
    """The picture behind the slide, or None where it is none."""
    above, layers = picture
    if type(slide) is not tuple or len(slide) < 3 or not is_number(slide[1]) or not 0 <= slide[1] <= len(layers):
        return None
    rows = rows_of(stock, picture)
    kind, at = slide[:2]
    new = None
    if kind == "wires" and len(slide) == 4 and is_number(slide[2]) and 0 <= slide[2] <= len(layers) - at:
        many, new = slide[2], laid_anew(stock, rows[at], layers[at:at + slide[2]], slide[3])
    elif len(slide) == 3 and slide[2] in SIDES and at < len(layers):
        if kind == "turn" and at + 1 < len(layers):
            many, new = 2, turned_anew(stock, rows[at], layers[at], layers[at + 1], slide[2])
        elif kind == "past":
            many, new = 1, past_anew(stock, rows[at], layers[at], slide[2])
        elif kind == "unpast":
            many, new = unpast_anew(stock, rows[at], layers[at:], slide[2])
    return None if new is None else (above, layers[:at] + new + layers[at + many:])


def unpast_anew(stock, row, layers, side):
    """Each box at each place of the row is tried."""
    for name, above, below in stock[2]:
        for place in range(len(row) + 1 - len(above)):
            box = (place, ("box", name))
            made = past_anew(stock, row, box, side)
            if made is not None and layers[:len(made)] == made:
                return len(made), (box,)
    return 0, None


def laid_anew(stock, row, old, new):
    if type(new) is not tuple or any(step[0] == "box" for place, step in old):
        return None
    for layer in new:
        if type(layer) is not tuple or len(layer) != 2 or not is_number(layer[0]) or layer[0] < 0:
            return None
        if not any(same(layer[1], step) for step in [("cross",), ("cap",)] + [("cup", sort) for sort in stock[1]]):
            return None
    if rows_of(stock, (row, new)) is None or graph_of(stock, (row, old)) != graph_of(stock, (row, new)):
        return None
    return new


def sided_slides(picture):
    """Turns, pasts and unpasts at each layer and to each side, right ones or not."""
    kinds = ("turn", "past", "unpast")
    return [(kind, at, side) for kind in kinds for at in range(len(picture[1])) for side in SIDES]


def chance_wires(stock, picture, chance):
    """A slide of wires that may be none: layers put in that undo each other, left out, or put in another order."""
    layers = picture[1]
    at = chance.randrange(len(layers) + 1)
    row = rows_of(stock, picture)[at]
    many = chance.choice((0, 0, 2, 3, 4))
    new = list(layers[at:at + many])
    if many and chance.randrange(2):
        chance.shuffle(new)
    elif many:
        new = new[1:-1]
    elif row and chance.randrange(2) and stock[0] == "bent":
        place = chance.randrange(len(row))
        new = chance.choice((
            [(place + 1, ("cup", row[place])), (place, ("cap",))],
            [(place, ("cup", row[place])), (place + 1, ("cap",))],
        ))
    elif len(row) > 1:
        new = [(chance.randrange(len(row) - 1), ("cross",))] * 2
    return ("wires", at, many, tuple(new))


def slid_about(stock, picture, chance, many=40, most_layers=45, most_wires=9):
    """The picture behind many slides by chance, and the paper of them."""
    paper = []
    for _ in range(many):
        slides = chance.sample(sided_slides(picture), min(8, len(sided_slides(picture))))
        slides += [chance_wires(stock, picture, chance) for _ in range(4)]
        chance.shuffle(slides)
        for slide in slides:
            then = slid_anew(stock, picture, slide)
            if then is not None and len(then[1]) <= most_layers:
                if max(len(row) for row in rows_of(stock, then)) <= most_wires:
                    picture = then
                    paper.append(slide)
                    break
    return picture, tuple(paper)


# Measures

def told_of(graph, foot):
    return (((("",) + graph[2])[foot[0]]),) + foot[1:]


def led_to(graph, foot):
    return [other if one == foot else one for one, other in graph[3] if foot in (one, other)][0]


def ways_apart(stock, one, other, most):
    """All true ways of at most so many steps, of two graphs with the same feet."""
    ways = [(foot, (), led_to(one, foot), led_to(other, foot)) for foot in sorts_of_feet(stock, one) if foot[0] == 0]
    found = []
    for _ in range(most + 1):
        longer = []
        for start, steps, here, there in ways:
            if told_of(one, here) != told_of(other, there):
                found.append(("way", start, steps, told_of(one, here), told_of(other, there)))
            elif here[0] != 0:
                for number, side, i in sorts_of_feet(stock, one):
                    if number == here[0]:
                        then = (led_to(one, (number, side, i)), led_to(other, (there[0], side, i)))
                        longer.append((start, steps + ((side, i),)) + then)
        ways = longer
    return found


def measures_apart(stock, one, other, most, spell):
    """All true measures of two graphs, ways of at most so many steps; spell spells a heap."""
    if one[:2] != other[:2]:
        return [("feet",)]
    found = ways_apart(stock, one, other, most)
    for sort in stock[1]:
        many, more = dict(one[4]).get(sort, 0), dict(other[4]).get(sort, 0)
        if many != more:
            found.append(("rings", sort, many, more))
    here, there = [spell(heap) for heap in heaps(one)], [spell(heap) for heap in heaps(other)]
    for heap in sorted(set(here + there)):
        if here.count(heap) != there.count(heap):
            found.append(("heaps", heap, here.count(heap), there.count(heap)))
    return found

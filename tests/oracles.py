"""What the document says, told anew in the plainest way, however slow: to hold the program against."""

import itertools

from samples import behind_layer, same
from slidewires.graphs import graph_of

SIDES = ("left", "right")


def up(number, i):
    return (number, "up", i)


def down(number, i):
    return (number, "down", i)


def ties(*pairs):
    return tuple(sorted(tuple(sorted(pair)) for pair in pairs))


def gives(foot):
    return foot[1] == ("up" if foot[0] == 0 else "down")


def sorts_of_feet(stock, graph):
    feet = {name: (above, below) for name, above, below in stock[2]}
    found = {}
    for number, (above, below) in enumerate([(graph[0], graph[1])] + [feet[name] for name in graph[2]]):
        found.update({(number, "up", i): sort for i, sort in enumerate(above)})
        found.update({(number, "down", i): sort for i, sort in enumerate(below)})
    return found


# Graphs

def numbered_otherwise(graph, order):
    """The same graph, its box number order[k] being number k + 1."""
    numbers = {0: 0}
    for k, old in enumerate(order):
        numbers[old] = k + 1
    tied = ties(*[tuple((numbers[number], side, i) for number, side, i in tie) for tie in graph[3]])
    return (graph[0], graph[1], tuple(graph[2][old - 1] for old in order), tied, graph[4])


def all_numberings(graph):
    """Each order of the boxes with the graph it makes."""
    for order in itertools.permutations(range(1, len(graph[2]) + 1)):
        yield order, numbered_otherwise(graph, order)


def all_matchings(one, other):
    if len(one[2]) != len(other[2]):
        return ()
    found = []
    for order, graph in all_numberings(one):
        if graph == other:
            # order tells, for each number in the other, the box of the one; the matching tells the opposite.
            found.append(tuple(order.index(number) + 1 for number in range(1, len(order) + 1)))
    return tuple(sorted(found))


def turned_pairs(matching):
    return sum(one > other for one, other in itertools.combinations(matching, 2))


def fewest_turns(one, other):
    return min(turned_pairs(matching) for matching in all_matchings(one, other))


def parts(graph):
    """The sets of box numbers that hang together; 0, the picture's own, is in one of them."""
    left = [{number} for number in range(len(graph[2]) + 1)]
    for foot, other in graph[3]:
        met = [part for part in left if foot[0] in part or other[0] in part]
        left = [part for part in left if part not in met] + [set().union(*met)]
    return left


def heaps(graph):
    """Each heap as a graph without feet and rings, its boxes in their order."""
    found = []
    for part in parts(graph):
        if 0 not in part:
            numbers = {old: k + 1 for k, old in enumerate(sorted(part))}
            inner = [tie for tie in graph[3] if tie[0][0] in part]
            tied = ties(*[tuple((numbers[number], side, i) for number, side, i in tie) for tie in inner])
            found.append(((), (), tuple(graph[2][old - 1] for old in sorted(part)), tied, ()))
    return found


def givers_first(graph):
    """The order of boxes that a loose graph is drawn in."""
    ahead = {number: set() for number in range(1, len(graph[2]) + 1)}
    for foot, other in graph[3]:
        giver, taker = (foot, other) if gives(foot) else (other, foot)
        if giver[0] and taker[0]:
            ahead[taker[0]].add(giver[0])
    order = []
    while len(order) < len(ahead):
        order.append(min(number for number in ahead if number not in order and ahead[number] <= set(order)))
    return order


def chance_graph(stock, chance, most_boxes=5, most_feet=3):
    """Boxes by chance, and their feet tied by chance: in bent stocks in any way that the sorts let."""
    names = [box[0] for box in stock[2]]
    boxes = tuple(chance.choice(names) for _ in range(chance.randrange(most_boxes + 1)))
    above, below = ([chance.choice(stock[1]) for _ in range(chance.randrange(most_feet + 1))] for _ in range(2))
    pairs = []
    for sort in stock[1]:
        feet = sorts_of_feet(stock, (above, below, boxes))
        some = [foot for foot in feet if feet[foot] == sort]
        if len(some) % 2:
            some.append(down(0, len(below)))
            below.append(sort)
        chance.shuffle(some)
        pairs += zip(some[::2], some[1::2])
    many = [(sort, chance.randrange(3)) for sort in stock[1]]
    return (tuple(above), tuple(below), boxes, ties(*pairs), tuple(ring for ring in many if ring[1]))


def tied_otherwise(stock, graph, chance):
    """Two ties of one sort give way to two others."""
    feet = sorts_of_feet(stock, graph)
    pairs = [pair for pair in itertools.combinations(graph[3], 2) if feet[pair[0][0]] == feet[pair[1][0]]]
    if not pairs:
        return graph
    (one, two), (three, four) = pair = chance.choice(pairs)
    return graph[:3] + (ties((one, four), (three, two), *[tie for tie in graph[3] if tie not in pair]),) + graph[4:]


# Slides

def sizes(stock, step):
    if step[0] == "box":
        above, below = {box[0]: box[1:] for box in stock[2]}[step[1]]
        return len(above), len(below)
    return {"cross": (2, 2), "cup": (0, 2), "cap": (2, 0)}[step[0]]


def rows_of(stock, picture):
    """The wires ahead of each layer and at the end, or None where it is no picture."""
    rows = [picture[0]]
    for place, step in picture[1]:
        then = behind_layer(stock, rows[-1], place, step)
        if then is None:
            return None
        rows.append(then)
    return rows


def turned_anew(stock, row, first, second, side):
    """By wires that each have a number: who stands left of whom before and behind."""
    takes, makes = sizes(stock, first[1])
    takes_then, makes_then = sizes(stock, second[1])
    wires = list(range(len(row)))
    taken = wires[first[0]:first[0] + takes]
    given = [100 + i for i in range(makes)]
    between = wires[:first[0]] + given + wires[first[0] + takes:]
    taken_then = between[second[0]:second[0] + takes_then]
    left_of_first, right_of_first = wires[:first[0]], wires[first[0] + takes:]
    left_then, right_then = between[:second[0]], between[second[0] + takes_then:]
    if side == "right":
        if not set(left_of_first + given) <= set(left_then) or set(taken_then) & set(given):
            return None
        return ((len([wire for wire in left_then if wire not in given] + taken), second[1]), first)
    if not set(given + right_of_first) <= set(right_then) or set(taken_then) & set(given):
        return None
    return (second, (len([wire for wire in left_of_first if wire not in taken_then]) + makes_then, first[1]))


def past_anew(stock, row, layer, side):
    """The wire is moved on, crossing by crossing, till it stands beside the box on the other side."""
    place, step = layer
    takes, makes = sizes(stock, step)
    wire = place + takes if side == "right" else place - 1
    if step[0] != "box" or not 0 <= wire < len(row):
        return None
    way = -1 if side == "right" else 1
    box = place - way
    above, below = [], []
    for _ in range(takes):
        above.append((min(wire, wire + way), ("cross",)))
        wire += way
    wire = place if side == "right" else box + makes
    for _ in range(makes):
        below.append((min(wire, wire - way), ("cross",)))
        wire -= way
    return tuple(above) + ((box, step),) + tuple(below)


def is_number(thing):
    return type(thing) is int


def slid_anew(stock, picture, slide):
    """The picture behind the slide, or None where it is none."""
    above, layers = picture
    if type(slide) is not tuple or len(slide) < 3 or not is_number(slide[1]) or not 0 <= slide[1] <= len(layers):
        return None
    rows = rows_of(stock, picture)
    kind, at = slide[:2]
    new = None
    if kind == "wires" and len(slide) == 4 and is_number(slide[2]) and 0 <= slide[2] <= len(layers) - at:
        many, new = slide[2], laid_anew(stock, rows[at], layers[at:at + slide[2]], slide[3])
    elif len(slide) == 3 and slide[2] in SIDES and at < len(layers):
        if kind == "turn" and at + 1 < len(layers):
            many, new = 2, turned_anew(stock, rows[at], layers[at], layers[at + 1], slide[2])
        elif kind == "past":
            many, new = 1, past_anew(stock, rows[at], layers[at], slide[2])
        elif kind == "unpast":
            many, new = unpast_anew(stock, rows[at], layers[at:], slide[2])
    return None if new is None else (above, layers[:at] + new + layers[at + many:])


def unpast_anew(stock, row, layers, side):
    """Each box at each place of the row is tried."""
    for name, above, below in stock[2]:
        for place in range(len(row) + 1 - len(above)):
            box = (place, ("box", name))
            made = past_anew(stock, row, box, side)
            if made is not None and layers[:len(made)] == made:
                return len(made), (box,)
    return 0, None


def laid_anew(stock, row, old, new):
    if type(new) is not tuple or any(step[0] == "box" for place, step in old):
        return None
    for layer in new:
        if type(layer) is not tuple or len(layer) != 2 or not is_number(layer[0]) or layer[0] < 0:
            return None
        if not any(same(layer[1], step) for step in [("cross",), ("cap",)] + [("cup", sort) for sort in stock[1]]):
            return None
    if rows_of(stock, (row, new)) is None or graph_of(stock, (row, old)) != graph_of(stock, (row, new)):
        return None
    return new


def sided_slides(picture):
    """Turns, pasts and unpasts at each layer and to each side, right ones or not."""
    kinds = ("turn", "past", "unpast")
    return [(kind, at, side) for kind in kinds for at in range(len(picture[1])) for side in SIDES]


def chance_wires(stock, picture, chance):
    """A slide of wires that may be none: layers put in that undo each other, left out, or put in another order."""
    layers = picture[1]
    at = chance.randrange(len(layers) + 1)
    row = rows_of(stock, picture)[at]
    many = chance.choice((0, 0, 2, 3, 4))
    new = list(layers[at:at + many])
    if many and chance.randrange(2):
        chance.shuffle(new)
    elif many:
        new = new[1:-1]
    elif row and chance.randrange(2) and stock[0] == "bent":
        place = chance.randrange(len(row))
        new = chance.choice((
            [(place + 1, ("cup", row[place])), (place, ("cap",))],
            [(place, ("cup", row[place])), (place + 1, ("cap",))],
        ))
    elif len(row) > 1:
        new = [(chance.randrange(len(row) - 1), ("cross",))] * 2
    return ("wires", at, many, tuple(new))


def slid_about(stock, picture, chance, many=40, most_layers=45, most_wires=9):
    """The picture behind many slides by chance, and the paper of them."""
    paper = []
    for _ in range(many):
        slides = chance.sample(sided_slides(picture), min(8, len(sided_slides(picture))))
        slides += [chance_wires(stock, picture, chance) for _ in range(4)]
        chance.shuffle(slides)
        for slide in slides:
            then = slid_anew(stock, picture, slide)
            if then is not None and len(then[1]) <= most_layers:
                if max(len(row) for row in rows_of(stock, then)) <= most_wires:
                    picture = then
                    paper.append(slide)
                    break
    return picture, tuple(paper)


# Measures

def told_of(graph, foot):
    return (((("",) + graph[2])[foot[0]]),) + foot[1:]


def led_to(graph, foot):
    return [other if one == foot else one for one, other in graph[3] if foot in (one, other)][0]


def ways_apart(stock, one, other, most):
    """All true ways of at most so many steps, of two graphs with the same feet."""
    ways = [(foot, (), led_to(one, foot), led_to(other, foot)) for foot in sorts_of_feet(stock, one) if foot[0] == 0]
    found = []
    for _ in range(most + 1):
        longer = []
        for start, steps, here, there in ways:
            if told_of(one, here) != told_of(other, there):
                found.append(("way", start, steps, told_of(one, here), told_of(other, there)))
            elif here[0] != 0:
                for number, side, i in sorts_of_feet(stock, one):
                    if number == here[0]:
                        then = (led_to(one, (number, side, i)), led_to(other, (there[0], side, i)))
                        longer.append((start, steps + ((side, i),)) + then)
        ways = longer
    return found


def measures_apart(stock, one, other, most, spell):
    """All true measures of two graphs, ways of at most so many steps; spell spells a heap."""
    if one[:2] != other[:2]:
        return [("feet",)]
    found = ways_apart(stock, one, other, most)
    for sort in stock[1]:
        many, more = dict(one[4]).get(sort, 0), dict(other[4]).get(sort, 0)
        if many != more:
            found.append(("rings", sort, many, more))
    here, there = [spell(heap) for heap in heaps(one)], [spell(heap) for heap in heaps(other)]
    for heap in sorted(set(here + there)):
        if here.count(heap) != there.count(heap):
            found.append(("heaps", heap, here.count(heap), there.count(heap)))
    return found


# Braids

def braid_text(text):
    """A braid of the sort a by crossings: "3: 0o 1u" has three wires, over at 0, under at 1."""
    wires, _, words = text.partition(":")
    steps = {"o": ("over",), "u": ("under",)}
    return (("a",) * int(wires), tuple((int(word[:-1]), steps[word[-1]]) for word in words.split()))


def chance_braid(stock, chance, most_layers=20, wires=None):
    above = tuple(chance.choice(stock[1]) for _ in range(chance.randrange(10) if wires is None else wires))
    many = chance.randrange(most_layers + 1) if len(above) > 1 else 0
    steps = (("over",), ("under",))
    return (above, tuple((chance.randrange(len(above) - 1), chance.choice(steps)) for _ in range(many)))


def reduced(letters):
    """Neighbours that are opposites go out, the leftmost first, till none are left."""
    letters = list(letters)
    at = 0
    while at < len(letters) - 1:
        if letters[at] == -letters[at + 1]:
            del letters[at:at + 2]
            at = max(at - 1, 0)
        else:
            at += 1
    return tuple(letters)


def words_anew(picture):
    words = [(i + 1,) for i in range(len(picture[0]))]
    for place, step in picture[1]:
        u, v = words[place:place + 2]
        if step[0] == "over":
            words[place:place + 2] = [reduced(u + v + tuple(-x for x in u[::-1])), u]
        else:
            words[place:place + 2] = [v, reduced(tuple(-x for x in v[::-1]) + u + v)]
    return tuple(words)


def braid_slid_anew(picture, slide):
    """The braid behind the slide, or None where it is none."""
    above, layers = picture
    if type(slide) is not tuple or len(slide) < 2 or not is_number(slide[1]) or not 0 <= slide[1] <= len(layers):
        return None
    at, rest = slide[1], slide[2:]
    ahead, here = layers[:at], layers[at:]
    if slide[0] == "turn" and len(rest) == 1 and len(here) > 1:
        (place, step), (then, other) = here[:2]
        if rest[0] == ("left" if then < place else "right") and abs(then - place) > 1:
            return (above, ahead + (here[1], here[0]) + here[2:])
    if slide[0] == "pair" and not rest and len(here) > 1:
        if here[0][0] == here[1][0] and {here[0][1][0], here[1][1][0]} == {"over", "under"}:
            return (above, ahead + here[2:])
    if slide[0] == "twine" and len(rest) == 2 and is_number(rest[0]) and 0 <= rest[0] < len(above) - 1:
        words = {"over": ("over", "under"), "under": ("under", "over")}
        if isinstance(rest[1], str) and rest[1] in words:
            return (above, ahead + tuple((rest[0], (word,)) for word in words[rest[1]]) + here)
    if slide[0] == "three" and not rest and len(here) > 2:
        (p, x), (q, y), (r, z) = here[:3]
        if p == r and q in (p - 1, p + 1) and (x, y, z) not in (
            (("over",), ("under",), ("over",)), (("under",), ("over",), ("under",)),
        ):
            return (above, ahead + ((q, z), (p, y), (q, x)) + here[3:])
    return None


def braid_slides(picture, twines=True):
    """Slides at each layer, right ones or not."""
    found = []
    for at in range(len(picture[1]) + 1):
        found += [("pair", at), ("three", at), ("turn", at, "left"), ("turn", at, "right")]
        if twines:
            found += [("twine", at, place, word) for place in range(len(picture[0])) for word in ("over", "under")]
    return found


def braid_slid_about(picture, chance, many=8, most_layers=20, twines=True):
    paper = []
    for _ in range(many):
        then = [(slide, braid_slid_anew(picture, slide)) for slide in braid_slides(picture, twines)]
        then = [(slide, new) for slide, new in then if new is not None and len(new[1]) <= most_layers]
        if then:
            kind = chance.choice(sorted({slide[0] for slide, new in then}))
            slide, picture = chance.choice([(slide, new) for slide, new in then if slide[0] == kind])
            paper.append(slide)
    return picture, tuple(paper)


# Readings

def product(numbers):
    many = 1
    for number in numbers:
        many *= number
    return many


def worths_anew(stock, sizes, sorts):
    of = dict(zip(stock[1], sizes))
    return list(itertools.product(*[range(of[sort]) for sort in sorts]))


def widths(stock, sizes, picture):
    """How many tuples of worths there are ahead of each layer and at the end."""
    return [len(worths_anew(stock, sizes, row)) for row in rows_of(stock, picture)]


def chance_sizes(stock, chance):
    return tuple(chance.randrange(1, 4) for _ in stock[1])


def chance_tables(stock, sizes, chance, most=3):
    def table(box):
        across = range(len(worths_anew(stock, sizes, box[2])))
        down_there = range(len(worths_anew(stock, sizes, box[1])))
        return tuple(tuple(chance.randrange(-most, most + 1) for _ in across) for _ in down_there)
    return (sizes, tuple(table(box) for box in stock[2]))


def chance_relations(stock, sizes, chance):
    def relation(box):
        pairs = itertools.product(worths_anew(stock, sizes, box[1]), worths_anew(stock, sizes, box[2]))
        share = chance.choice((0, 1, 2, 3, 4))
        return tuple(pair for pair in pairs if chance.randrange(4) < share)
    return (sizes, tuple(relation(box) for box in stock[2]))


def all_worths(stock, sizes, graph):
    """Each choice of worths on all ties, as a dict from feet to worths."""
    of = dict(zip(stock[1], sizes))
    feet = sorts_of_feet(stock, graph)
    for chosen in itertools.product(*[range(of[feet[foot]]) for foot, other in graph[3]]):
        worth = {}
        for (foot, other), one in zip(graph[3], chosen):
            worth[foot] = worth[other] = one
        yield worth


def worths_of_box(worth, number, above, below):
    return (tuple(worth[up(number, i)] for i in range(len(above))),
            tuple(worth[down(number, i)] for i in range(len(below))))


def table_anew(stock, filling, graph):
    """The sum over all worths on all ties at once, of the graph: however the wires are laid."""
    sizes, tables = filling
    of = dict(zip(stock[1], sizes))
    boxes = {box[0]: (box[1], box[2], table) for box, table in zip(stock[2], tables)}
    rings = product(of[sort] ** many for sort, many in graph[4])
    told = {}
    for worth in all_worths(stock, sizes, graph):
        number = rings
        for k, name in enumerate(graph[2], start=1):
            above, below, table = boxes[name]
            ups, downs = worths_of_box(worth, k, above, below)
            row = worths_anew(stock, sizes, above).index(ups)
            number *= table[row][worths_anew(stock, sizes, below).index(downs)]
        pair = worths_of_box(worth, 0, graph[0], graph[1])
        told[pair] = told.get(pair, 0) + number
    return tuple(
        tuple(told.get((ups, downs), 0) for downs in worths_anew(stock, sizes, graph[1]))
        for ups in worths_anew(stock, sizes, graph[0])
    )


def relation_anew(stock, filling, graph):
    sizes, relations = filling
    boxes = {box[0]: (box[1], box[2], relation) for box, relation in zip(stock[2], relations)}
    told = set()
    for worth in all_worths(stock, sizes, graph):
        if all(worths_of_box(worth, k, *boxes[name][:2]) in boxes[name][2] for k, name in enumerate(graph[2], 1)):
            told.add(worths_of_box(worth, 0, graph[0], graph[1]))
    return tuple(sorted(told))


# Expressions

def parts_many(expression):
    if expression[0] in ("in", "num"):
        return 1
    return 1 + sum(parts_many(part) for part in expression[1:])


def run_anew(expression, numbers):
    kind = expression[0]
    if kind == "in":
        return numbers[expression[1]]
    if kind == "num":
        return expression[1]
    one, other = (run_anew(part, numbers) for part in expression[1:3])
    if kind == "pick":
        return other if one != 0 else run_anew(expression[3], numbers)
    return {"add": lambda: one + other, "mul": lambda: one * other, "less": lambda: int(one < other)}[kind]()


def put_in_anew(expression, brought):
    if expression[0] == "in":
        return brought[expression[1]]
    if expression[0] == "num":
        return expression
    return expression[:1] + tuple(put_in_anew(part, brought) for part in expression[1:])


def chance_expression(chance, feet, most):
    kinds = ["in"] * bool(feet) + ["num"]
    if most >= 3:
        kinds += ["add", "mul", "less"]
    if most >= 4:
        kinds += ["pick"]
    kind = chance.choice(kinds)
    if kind == "in":
        return ("in", chance.randrange(feet))
    if kind == "num":
        return ("num", chance.choice((0, 1, -1, 2, -7, 10**9, -(10**10) + 1)))
    many = 3 if kind == "pick" else 2
    return (kind,) + tuple(chance_expression(chance, feet, (most - 1) // many) for _ in range(many))


def chance_program(stock, chance, most=30):
    return tuple(
        tuple(chance_expression(chance, len(box[1]), chance.randrange(1, most + 1)) for _ in box[2])
        for box in stock[2]
    )


def picture_run(stock, filling, picture, numbers):
    """Numbers led down through the layers."""
    row = list(numbers)
    boxes = {box[0]: (len(box[1]), expressions) for box, expressions in zip(stock[2], filling)}
    for place, step in picture[1]:
        takes, expressions = (2, (("in", 1), ("in", 0))) if step[0] == "cross" else boxes[step[1]]
        taken = row[place:place + takes]
        row[place:place + takes] = [run_anew(expression, taken) for expression in expressions]
    return tuple(row)


def program_anew(stock, filling, picture):
    """(expressions, None), or (None, how many parts) of the first that is too wide."""
    row = [("in", i) for i in range(len(picture[0]))]
    boxes = {box[0]: (len(box[1]), expressions) for box, expressions in zip(stock[2], filling)}
    for place, step in picture[1]:
        takes, expressions = (2, (("in", 1), ("in", 0))) if step[0] == "cross" else boxes[step[1]]
        given = [put_in_anew(expression, row[place:place + takes]) for expression in expressions]
        for expression in given:
            if parts_many(expression) > 500:
                return None, parts_many(expression)
        row[place:place + takes] = given
    return tuple(row), None


# Rules

def paired(stock, feet, chance):
    """Ties by chance of all these feet, a dict to sorts; None where a sort has an odd number of them."""
    pairs = []
    for sort in stock[1]:
        some = [foot for foot in feet if feet[foot] == sort]
        if len(some) % 2:
            return None
        chance.shuffle(some)
        pairs += zip(some[::2], some[1::2])
    return pairs


def together(many, pairs):
    """Whether boxes 1 to many hang together by these ties of boxes' feet."""
    seen = {1}
    for _ in range(many):
        for foot, other in pairs:
            if 0 not in (foot[0], other[0]) and {foot[0], other[0]} & seen:
                seen |= {foot[0], other[0]}
    return len(seen) == many


def chance_left(stock, chance, most=3):
    """A piece that hangs together: feet that aren't tied to one another are tied to feet of its own."""
    while True:
        boxes = tuple(chance.choice(stock[2])[0] for _ in range(chance.randrange(1, most + 1)))
        feet = sorts_of_feet(stock, ((), (), boxes))
        pairs = []
        for sort in stock[1]:
            some = [foot for foot in feet if feet[foot] == sort]
            chance.shuffle(some)
            pairs += zip(some[::2], some[1::2])
        pairs = chance.sample(pairs, chance.randrange(len(pairs) + 1))
        if together(len(boxes), pairs):
            break
    above, below = [], []
    for foot in feet:
        if foot not in itertools.chain(*pairs):
            row, own = chance.choice(((above, up), (below, down)))
            pairs.append((own(0, len(row)), foot))
            row.append(feet[foot])
    return (tuple(above), tuple(below), boxes, ties(*pairs), ())


def chance_rule(stock, chance, most=3):
    while True:
        left = chance_left(stock, chance, most)
        for _ in range(20):
            boxes = tuple(chance.choice(stock[2])[0] for _ in range(chance.randrange(len(left[2]))))
            pairs = paired(stock, sorts_of_feet(stock, left[:2] + (boxes,)), chance)
            if pairs is not None:
                rings = [(sort, chance.choice((0, 0, 1, 2))) for sort in stock[1]]
                return (left, left[:2] + (boxes, ties(*pairs), tuple(ring for ring in rings if ring[1])))


def chance_place(stock, chance, lefts, more=2):
    """A graph that holds these lefts, among other boxes, numbered by chance, and tied to them by chance."""
    while True:
        boxes, pairs = [], []
        for left in lefts:
            by = len(boxes)
            boxes += left[2]
            pairs += [tuple((foot[0] + by,) + foot[1:] for foot in tie) for tie in left[3] if tie[0][0] != 0]
        boxes += [chance.choice(stock[2])[0] for _ in range(chance.randrange(more + 1))]
        above, below = (tuple(chance.choice(stock[1]) for _ in range(chance.randrange(4))) for _ in range(2))
        feet = sorts_of_feet(stock, (above, below, tuple(boxes)))
        for foot in itertools.chain(*pairs):
            del feet[foot]
        rest = paired(stock, feet, chance)
        if rest is not None:
            rings = [(sort, chance.choice((0, 0, 1))) for sort in stock[1]]
            graph = (above, below, tuple(boxes), ties(*pairs, *rest), tuple(ring for ring in rings if ring[1]))
            order = list(range(1, len(boxes) + 1))
            chance.shuffle(order)
            return numbered_otherwise(graph, order)


def is_find_anew(graph, left, find):
    if type(find) is not tuple or len(find) != len(left[2]) or not all(is_number(number) for number in find):
        return False
    if len(set(find)) != len(find) or not all(1 <= number <= len(graph[2]) for number in find):
        return False
    if any(graph[2][number - 1] != name for number, name in zip(find, left[2])):
        return False
    inner = [tie for tie in left[3] if tie[0][0] != 0 and tie[1][0] != 0]
    return all(
        tuple(sorted((find[number - 1], side, i) for number, side, i in tie)) in graph[3] for tie in inner
    )


def finds_anew(graph, left):
    every = itertools.permutations(range(1, len(graph[2]) + 1), len(left[2]))
    return tuple(find for find in every if is_find_anew(graph, left, find))


def done_anew(stock, graph, rule, find):
    """Each wire is followed, from each foot that stays and from each foot of the rule's own."""
    left, right = rule
    stay = [number for number in range(1, len(graph[2]) + 1) if number not in find]
    numbers = {number: k for k, number in enumerate([0] + stay)}

    def go_in(foot):
        """From a foot of a found box on: the foot of right that is come to."""
        return led_to(right, led_to(left, (find.index(foot[0]) + 1,) + foot[1:]))

    def go_out(own):
        """From a foot of the rule's own on: the foot of the graph that is come to."""
        inner = led_to(left, own)
        return led_to(graph, (find[inner[0] - 1],) + inner[1:])

    def follow(foot, within, seen):
        """Till a foot that stays is come to; None where the wire comes into itself."""
        while True:
            if within and foot[0] != 0:
                return (len(stay) + foot[0],) + foot[1:]
            if not within and foot[0] not in find:
                return (numbers[foot[0]],) + foot[1:]
            if within and foot in seen:
                return None
            if within:
                seen.append(foot)
            foot = go_out(foot) if within else go_in(foot)
            within = not within

    above, below, boxes = graph[0], graph[1], tuple(graph[2][number - 1] for number in stay) + right[2]
    pairs = set()
    for foot in sorts_of_feet(stock, graph):
        if foot[0] not in find:
            here = (numbers[foot[0]],) + foot[1:]
            pairs.add(tuple(sorted((here, follow(led_to(graph, foot), False, [])))))
    for foot in sorts_of_feet(stock, right):
        if foot[0] != 0:
            here = (len(stay) + foot[0],) + foot[1:]
            pairs.add(tuple(sorted((here, follow(led_to(right, foot), True, [])))))
    rings = {sort: dict(graph[4]).get(sort, 0) + dict(right[4]).get(sort, 0) for sort in stock[1]}
    # A foot of the rule's own from which no foot that stays is come to lies on a ring: it, and the others there, once.
    own = {foot: sort for foot, sort in sorts_of_feet(stock, left).items() if foot[0] == 0}
    on_rings = [foot for foot in own if follow(foot, True, []) is None]
    while on_rings:
        seen = []
        follow(on_rings[0], True, seen)
        rings[own[on_rings[0]]] += 1
        there = seen + [led_to(right, foot) for foot in seen]
        on_rings = [foot for foot in on_rings if foot not in there]
    return (above, below, boxes, tuple(sorted(pairs)), tuple((sort, rings[sort]) for sort in stock[1] if rings[sort]))


def meetings_anew(stock, rules):
    """All that the document calls so, by going through all tuples that might be one."""
    found = []
    for i, j in itertools.combinations_with_replacement(range(len(rules)), 2):
        one, other = rules[i][0], rules[j][0]
        many = len(one[2])
        for find in itertools.permutations(range(1, many + len(other[2]) + 1), len(other[2])):
            alone = [(number, name) for number, name in zip(find, other[2]) if number > many]
            if [number for number, name in alone] != list(range(many + 1, many + 1 + len(alone))):
                continue
            if len(alone) == len(other[2]) or (i == j and find == tuple(range(1, many + 1))):
                continue
            boxes = one[2] + tuple(name for number, name in alone)
            tied = {tie for tie in one[3] if tie[0][0] != 0}
            for tie in other[3]:
                if tie[0][0] != 0:
                    tied.add(tuple(sorted((find[foot[0] - 1],) + foot[1:] for foot in tie)))
            feet = sorts_of_feet(stock, ((), (), boxes))
            used = list(itertools.chain(*tied))
            if any(boxes[number - 1] != name for number, name in zip(find, other[2])) or len(used) != len(set(used)):
                continue
            free = sorted(foot for foot in feet if foot not in used)
            graph = ((), tuple(feet[foot] for foot in free), boxes,
                     ties(*tied, *[(down(0, k), foot) for k, foot in enumerate(free)]), ())
            found.append((graph, i, tuple(range(1, many + 1)), j, find))
    return found


def rested_anew(stock, graph, rules):
    row = []
    while True:
        steps = [(number, find) for number, rule in enumerate(rules) for find in finds_anew(graph, rule[0])]
        if not steps:
            return graph, tuple(row)
        row.append(min(steps))
        graph = done_anew(stock, graph, rules[row[-1][0]], row[-1][1])


def rested_by_chance(stock, graph, rules, chance):
    row = []
    while True:
        steps = [(number, find) for number, rule in enumerate(rules) for find in finds_anew(graph, rule[0])]
        if not steps:
            return graph, tuple(row)
        row.append(chance.choice(steps))
        graph = done_anew(stock, graph, rules[row[-1][0]], row[-1][1])

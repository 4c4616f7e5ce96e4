"""What several tests need: stocks, things of other kinds, spoiled things, pictures by a seeded chance."""

LOOSE = (
    "loose",
    ("a", "b"),
    (
        ("f", ("a", "b"), ("a",)),
        ("g", ("a",), ("b", "a")),
        ("new", (), ("a",)),
        ("gone", ("b",), ()),
        ("dot", (), ()),
        ("same", ("a", "a"), ("a", "a")),
    ),
)
BENT = ("bent", LOOSE[1], LOOSE[2])
BRAID = ("braid", ("a", "b"), ())
STOCKS = (LOOSE, BENT, BRAID)

STEP_WORDS = ("cross", "cup", "cap", "over", "under")


def deep(how_deep):
    thing = ["a"]
    for level in range(how_deep):
        thing = [thing] if level % 2 else (thing,)
    return thing


# None of these is a sort, a box, a place, a step, a foot: but 0 and 7 may be places or numbers.
WHOLE = (0, 7, -1, 10**39, -(10**39))
ODD = WHOLE + (
    True, False, None, "", "?", "A", "a b", "0", [], {}, ["a"], ["a", "b"], {"a": "b"}, {0: []},
    (None,), (True,), ([],), ({},), (("a",),), ("a", ["b"]), ("loose", {}), [[["a"]]], deep(38),
    [{"a": [({"b": ()},)]}], tuple(range(2000)), list(range(2000)),
)


def same(one, other):
    # True == 1 and 1 == True: so the kinds are looked at, too.
    if type(one) is not type(other):
        return False
    if isinstance(one, (tuple, list)):
        return len(one) == len(other) and all(same(x, y) for x, y in zip(one, other))
    return one == other


def paths(thing, here=()):
    found = [here]
    if isinstance(thing, tuple):
        for i, part in enumerate(thing):
            found.extend(paths(part, here + (i,)))
    return found


def part_at(thing, path):
    for i in path:
        thing = thing[i]
    return thing


def put_at(thing, path, part):
    if not path:
        return part
    i = path[0]
    return thing[:i] + (put_at(thing[i], path[1:], part),) + thing[i + 1:]


def tuple_paths(thing):
    return [path for path in paths(thing) if isinstance(part_at(thing, path), tuple)]


def with_lists(thing):
    """Each tuple of the thing made a list, one at a time, then all of them."""
    spoiled = [put_at(thing, path, list(part_at(thing, path))) for path in tuple_paths(thing)]
    return spoiled + [all_lists(thing)]


def all_lists(thing):
    return [all_lists(part) for part in thing] if isinstance(thing, tuple) else thing


def with_odd(thing, but=lambda path, odd: False):
    """An odd thing at each place, but where it is said to be a right one there."""
    spoiled = []
    for path in paths(thing):
        for odd in ODD:
            if not same(odd, part_at(thing, path)) and not but(path, odd):
                spoiled.append(put_at(thing, path, odd))
    return spoiled


def with_more(thing):
    """Each tuple with a part more that is right nowhere."""
    return [put_at(thing, path, part_at(thing, path) + (None,)) for path in tuple_paths(thing)]


def less_and_twice(thing, path):
    """The tuple there without each of its parts, and with each of them twice."""
    whole = part_at(thing, path)
    spoiled = []
    for i in range(len(whole)):
        spoiled.append(put_at(thing, path, whole[:i] + whole[i + 1:]))
        spoiled.append(put_at(thing, path, whole[:i + 1] + whole[i:]))
    return spoiled


def all_steps(stock):
    """Steps of all manners, right ones or not in this stock."""
    steps = [("cross",), ("cap",), ("over",), ("under",)]
    steps += [("cup", sort) for sort in stock[1] + ("zz",)]
    names = dict.fromkeys([box[0] for box in LOOSE[2] + stock[2]] + ["zz"])
    return steps + [("box", name) for name in names]


def behind_layer(stock, wires, place, step):
    """The wires behind a layer, or None where it doesn't fit: told anew, by the document."""
    boxes = {name: (above, below) for name, above, below in stock[2]}
    pair = wires[place:place + 2]
    if step[0] == "box" and step[1] in boxes:
        taken, given = boxes[step[1]]
    elif step[0] == "cup" and stock[0] == "bent" and step[1] in stock[1]:
        taken, given = (), (step[1], step[1])
    elif step[0] == "cap" and stock[0] == "bent" and len(pair) == 2 and pair[0] == pair[1]:
        taken, given = pair, ()
    elif step[0] in (("over", "under") if stock[0] == "braid" else ("cross",)) and len(pair) == 2:
        taken, given = pair, pair[::-1]
    else:
        return None
    left = list(wires)
    for foot in taken:
        if place >= len(left) or left.pop(place) != foot:
            return None
    if place > len(left):
        return None
    left[place:place] = given
    return tuple(left)


def chance_picture(stock, chance, most_layers=12, most_wires=8, above=None):
    if above is None:
        above = tuple(chance.choice(stock[1]) for _ in range(chance.randrange(6)))
    wires = above
    layers = []
    for _ in range(chance.randrange(most_layers + 1)):
        fitting = []
        for place in range(len(wires) + 1):
            for step in all_steps(stock):
                then = behind_layer(stock, wires, place, step)
                if then is not None and len(then) <= most_wires:
                    fitting.append((place, step, then))
        if fitting:
            kind = chance.choice(sorted({step[0] for place, step, then in fitting}))
            place, step, wires = chance.choice([found for found in fitting if found[1][0] == kind])
            layers.append((place, step))
    return (above, tuple(layers)), wires


def chance_inner(stock, chance, above, below, tries=40):
    """A picture with just these feet of a box; where none comes up, the box itself with a dot ahead."""
    for _ in range(tries):
        picture, wires = chance_picture(stock, chance, most_layers=6, most_wires=4, above=above)
        if wires == below:
            return picture
    names = [box[0] for box in stock[2] if box[1:] == (above, below)]
    return (above, ((0, ("box", "dot")), (0, ("box", chance.choice(names)))))


# Boxes for rules: with one foot each, with more, without; of one sort and of two.
RULED = ("bent", ("a", "b"), (
    ("f", ("a",), ("a",)), ("g", ("a",), ("a",)), ("m", ("a", "a"), ("a",)), ("w", ("a",), ("a", "a")),
    ("u", (), ("a",)), ("e", ("a",), ()), ("x", ("a", "b"), ("b", "a")), ("dot", (), ()),
))
# So few boxes that rules by chance meet often.
FEW = ("bent", ("a",), RULED[2][:1] + RULED[2][2:4])

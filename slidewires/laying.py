"""Wires laid between two rows; each wire has a label, which stands at both of its ends."""


def laid(top, bottom, sorts):
    # A label that stands twice in one row is a bend; sorts tells each label's sort.
    ends = bends_of(top)
    starts = bends_of(bottom)
    layers = [(place, ("cross",) if label is None else ("cap",)) for place, label in ends[0]]
    layers.extend([(place, ("cross",)) for place in crossings(ends[1], starts[1])])
    # What begins in the lower row is the same as what ends in it, from below.
    for place, label in reversed(starts[0]):
        layers.append((place, ("cross",) if label is None else ("cup", sorts[label])))
    return tuple(layers)


def bends_of(row):
    # Told are the moves (place, label), label None for a crossing, and the labels that are left.
    left = list(row)
    moves = []
    pair = nearest_pair(left)
    while pair is not None:
        for place in range(pair[1] - 1, pair[0], -1):
            moves.append((place, None))
        moves.append((pair[0], left[pair[0]]))
        left = left[:pair[0]] + left[pair[0] + 1:pair[1]] + left[pair[1] + 1:]
        pair = nearest_pair(left)
    return (moves, left)


def nearest_pair(row):
    seen = {}
    best = None
    for place, label in enumerate(row):
        if label in seen and (best is None or place - seen[label] < best[1] - best[0]):
            best = (seen[label], place)
        seen[label] = place
    return best


def crossings(row, wanted):
    # As few as there are: each takes two wires that stand otherwise than is wanted.
    left = list(row)
    places = []
    for place, label in enumerate(wanted):
        found = left.index(label)
        for k in range(found - 1, place - 1, -1):
            places.append(k)
        left = left[:place] + [label] + left[place:found] + left[found + 1:]
    return places


def ring_layers(rings):
    layers = []
    for sort, many in rings:
        for k in range(many):
            layers.append((0, ("cup", sort)))
            layers.append((0, ("cap",)))
    return tuple(layers)

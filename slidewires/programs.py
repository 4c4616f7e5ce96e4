"""Pictures read as programs: tuples of expressions, run by numbers."""

from slidewires.errors import TooWide
from slidewires.steps import taken_many

MOST_PARTS = 500


def read_program(stock, filling, picture):
    wires = [("in", i) for i in range(len(picture[0]))]
    for place, step in picture[1]:
        end = place + taken_many(stock, step)
        wires = wires[:place] + given_by_step(stock, filling, step, wires[place:end]) + wires[end:]
    return tuple(wires)


def given_by_step(stock, filling, step, brought):
    if step[0] == "cross":
        return [brought[1], brought[0]]
    expressions = filling[[box[0] for box in stock[2]].index(step[1])]
    return [put_in(expression, brought) for expression in expressions]


def put_in(expression, brought):
    check_parts(expression, brought)
    return folded(expression, brought, written)


def check_parts(expression, brought):
    # Counted ahead of putting in: what is too wide may be so beyond all measure.
    parts = [len(parts_within(one)) for one in brought]
    many = sum([parts[part[1]] if part[0] == "in" else 1 for part in parts_within(expression)])
    if many > MOST_PARTS:
        raise TooWide(many)


def parts_within(expression):
    # The expression itself, then all within it, from the left. By a list, since they may lie deep.
    found = []
    left = [expression]
    while left:
        part = left.pop()
        found.append(part)
        if part[0] not in ("in", "num"):
            left.extend(part[:0:-1])
    return found


def folded(expression, brought, build):
    # From behind, so that all within a part is built ahead of it, and its first one lies on top.
    built = []
    for part in reversed(parts_within(expression)):
        if part[0] == "in":
            built.append(brought[part[1]])
        elif part[0] == "num":
            built.append(build("num", part[1:]))
        else:
            many = len(part) - 1
            inner = tuple(built[:-1 - many:-1])
            built = built[:-many] + [build(part[0], inner)]
    return built[0]


def written(kind, inner):
    return (kind,) + inner


def run(expression, numbers):
    return folded(expression, numbers, reckoned)


def reckoned(kind, inner):
    if kind == "num":
        return inner[0]
    if kind == "add":
        return inner[0] + inner[1]
    if kind == "mul":
        return inner[0] * inner[1]
    if kind == "less":
        return 1 if inner[0] < inner[1] else 0
    return inner[1] if inner[0] != 0 else inner[2]

"""Stocks written and read."""

from slidewires.errors import NoText
from slidewires.stocks import is_stock


def show_stock(stock):
    rows = [("manner", stock[0])]
    for sort in stock[1]:
        rows.append(("sort", sort))
    for box in stock[2]:
        rows.append(("box", box[0]) + box[1] + (">",) + box[2])
    return "\n".join([" ".join(row) for row in rows])


def read_stock(text):
    if not isinstance(text, str):
        raise NoText("what is no text is no stock's text")
    stock = rows_read([row.split(" ") for row in text.split("\n")])
    # Reading is lenient; writing anew is what tells that nothing stood there but a stock.
    if not is_stock(stock) or show_stock(stock) != text:
        raise NoText("no stock is written so")
    return stock


def rows_read(rows):
    sorts = tuple([row[-1] for row in rows if row[0] == "sort"])
    boxes = tuple([box_read(row) for row in rows if row[0] == "box"])
    return (rows[0][-1], sorts, boxes)


def box_read(row):
    if ">" not in row:
        raise NoText("a box's row parts its feet by a >")
    parting = row.index(">")
    return (row[1], tuple(row[2:parting]), tuple(row[parting + 1:]))

"""Sheets: a stock, pictures and questions in one text, each question answered by a row."""

from slidewires.braidslides import braids_compared
from slidewires.checker import turns_in
from slidewires.comparing import compared
from slidewires.drawing import plain
from slidewires.errors import NoFit, NoText
from slidewires.joining import behind, beside
from slidewires.names import is_name
from slidewires.pictures import below_of, boxes_of
from slidewires.picturetexts import read_picture, show_picture
from slidewires.stocktexts import read_stock

STOCK_WORDS = ("manner", "sort", "box")
# How many pictures each question names.
QUESTIONS = {"alike": 2, "plain": 1, "boxes": 1, "below": 1, "behind": 2, "beside": 2}


def answers(text):
    if not isinstance(text, str):
        raise NoText("what is no text is no sheet")
    rows = text.split("\n")
    many = count_first(rows, STOCK_WORDS)
    stock = read_stock("\n".join(rows[:many]))
    more = count_first(rows[many:], ("picture",))
    pictures = pictures_read(stock, rows[many:many + more])
    return [answer(stock, pictures, row.split(" ")) for row in rows[many + more:]]


def count_first(rows, words):
    # How many rows at the beginning have one of the words as their first one.
    many = 0
    while many < len(rows) and rows[many].split(" ")[0] in words:
        many = many + 1
    return many


def pictures_read(stock, rows):
    pictures = {}
    for row in rows:
        parts = row.split(" ", 2)
        if len(parts) < 3 or not is_name(parts[1]):
            raise NoText("a picture's row has a name and a picture's text")
        if parts[1] in pictures:
            raise NoText("two pictures have one name")
        pictures[parts[1]] = read_picture(stock, parts[2])
    return pictures


def answer(stock, pictures, words):
    named = words[1:]
    if QUESTIONS.get(words[0]) != len(named) or not all([name in pictures for name in named]):
        return "?"
    chosen = [pictures[name] for name in named]
    if len(chosen) == 1:
        return answer_of_one(stock, words[0], chosen[0])
    return answer_of_two(stock, words[0], chosen[0], chosen[1])


def answer_of_one(stock, word, picture):
    if word == "boxes":
        return str(len(boxes_of(picture)))
    if word == "below":
        return show_picture(stock, (below_of(stock, picture), ()))
    if stock[0] == "braid":
        return "?"
    return show_picture(stock, plain(stock, picture))


def answer_of_two(stock, word, one, other):
    if word == "beside":
        return show_picture(stock, beside(stock, one, other))
    if word == "behind":
        return behind_shown(stock, one, other)
    if stock[0] == "braid":
        return braids_told(stock, one, other)
    return compared_told(stock, one, other)


def behind_shown(stock, one, other):
    try:
        return show_picture(stock, behind(stock, one, other))
    except NoFit:
        return "no"


def compared_told(stock, one, other):
    told = compared(stock, one, other)
    if told[0] == "unlike":
        return unlike_told(told[1])
    slides = len(told[1])
    turns = turns_in(stock, one, told[1])
    return f"alike {slides} {turns}"


def braids_told(stock, one, other):
    told = braids_compared(stock, one, other)
    if told[0] == "unlike":
        return unlike_told(told[1])
    if told[1] is None:
        return "alike - -"
    slides = len(told[1])
    return f"alike {slides} 0"


def unlike_told(measure):
    kind = measure[0]
    return f"unlike {kind}"

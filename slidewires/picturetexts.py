"""Pictures written, and read by their stock."""

from slidewires.errors import NoText
from slidewires.names import STEP_WORDS
from slidewires.pictures import is_picture

FIGURES = "0123456789"
# No text has room for as many wires as a place of more figures counts,
# and Python won't make a number of some thousands of figures.
MOST_FIGURES = 18


def show_picture(stock, picture):
    above = " ".join(picture[0]) if picture[0] else "-"
    return " | ".join([above] + [show_layer(layer) for layer in picture[1]])


def show_layer(layer):
    place = layer[0]
    words = " ".join(layer[1][1:] if layer[1][0] == "box" else layer[1])
    return f"{place} {words}"


def read_picture(stock, text):
    if not isinstance(text, str):
        raise NoText("what is no text is no picture's text")
    parts = text.split(" | ")
    above = () if parts[0] == "-" else tuple(parts[0].split(" "))
    picture = (above, tuple([layer_read(part.split(" ")) for part in parts[1:]]))
    # Reading is lenient; writing anew is what tells that nothing stood there but a picture.
    if not is_picture(stock, picture) or show_picture(stock, picture) != text:
        raise NoText("no picture of this stock is written so")
    return picture


def layer_read(words):
    if len(words) < 2:
        raise NoText("a layer has a place and a step")
    return (place_read(words[0]), step_read(words[1:]))


def place_read(word):
    if not 1 <= len(word) <= MOST_FIGURES or not all([sign in FIGURES for sign in word]):
        raise NoText("a place is written in figures")
    return int(word)


def step_read(words):
    if words[0] in STEP_WORDS:
        return tuple(words)
    return ("box", words[0])

"""Slides of braids, rows of them walked, and braids compared."""

from slidewires.braids import words_of
from slidewires.errors import NoSlide
from slidewires.names import is_whole
from slidewires.pictures import below_of, has_layer, with_layers
from slidewires.turning import BACK_SIDE, turn_change

PARTS = {"turn": 3, "pair": 2, "twine": 4, "three": 2}
UNLIKE_WORD = {"over": "under", "under": "over"}
MOST_SLIDES = 2


def braid_slid(stock, picture, slide):
    change = braid_change(stock, picture, slide)
    return with_layers(picture, change[0], change[1], change[2])


def braid_change(stock, picture, slide):
    # Told is (at, many, layers): from at on so many layers give way to these.
    if not isinstance(slide, tuple) or slide == ():
        raise NoSlide("a slide is a tuple that begins with its kind")
    # A list or a dict can't be looked up in a dict: so texts alone come that far.
    if not isinstance(slide[0], str) or slide[0] not in PARTS or len(slide) != PARTS[slide[0]]:
        raise NoSlide("there is no such kind of slide of braids")
    if slide[0] == "twine":
        return twine_change(picture, slide)
    if not has_layer(picture, slide[1]):
        raise NoSlide("there is no such layer")
    if slide[0] == "turn":
        if slide[2] not in ("left", "right"):
            raise NoSlide("there is no such side")
        return turn_change(stock, picture, slide[1], slide[2])
    if slide[0] == "pair":
        return pair_change(picture, slide[1])
    return three_change(picture, slide[1])


def twine_change(picture, slide):
    at = slide[1]
    place = slide[2]
    if not is_whole(at) or not 0 <= at <= len(picture[1]):
        raise NoSlide("there is no such layer")
    # A braid has as many wires everywhere as above.
    if not is_whole(place) or not 0 <= place <= len(picture[0]) - 2:
        raise NoSlide("there aren't two wires at this place")
    if slide[3] not in ("over", "under"):
        raise NoSlide("a crossing is called over or under")
    return (at, 0, ((place, (slide[3],)), (place, (UNLIKE_WORD[slide[3]],))))


def pair_change(picture, at):
    layers = picture[1][at:at + 2]
    if len(layers) < 2 or layers[0][0] != layers[1][0] or layers[0][1] == layers[1][1]:
        raise NoSlide("these layers don't undo each other")
    return (at, 2, ())


def three_change(picture, at):
    layers = picture[1][at:at + 3]
    if len(layers) < 3 or layers[0][0] != layers[2][0] or abs(layers[0][0] - layers[1][0]) != 1:
        raise NoSlide("three layers don't stand so here")
    steps = [step for place, step in layers]
    if steps[0] == steps[2] and steps[0] != steps[1]:
        raise NoSlide("the wires of these three are caught in one another")
    outer = layers[0][0]
    inner = layers[1][0]
    return (at, 3, ((inner, steps[2]), (outer, steps[1]), (inner, steps[0])))


def slid_or_none(stock, picture, slide):
    try:
        return braid_slid(stock, picture, slide)
    except NoSlide:
        return None


def braid_walks(stock, one, other, thing):
    if not isinstance(thing, tuple):
        return False
    here = one
    for slide in thing:
        here = slid_or_none(stock, here, slide)
        if here is None:
            return False
    return here == other


def braids_compared(stock, one, other):
    if one[0] != other[0] or below_of(stock, one) != below_of(stock, other):
        return ("unlike", ("feet",))
    for place, words in enumerate(zip(words_of(stock, one), words_of(stock, other))):
        if words[0] != words[1]:
            return ("unlike", ("word", place, words[0], words[1]))
    return ("alike", braid_paper(stock, one, other))


def braid_paper(stock, one, other):
    ones = braids_near(stock, one)
    others = braids_near(stock, other)
    meets = [braid for braid in ones if braid in others]
    if meets == []:
        return None
    meet = min(meets, key=lambda braid: len(ones[braid][0]) + len(others[braid][1]))
    return ones[meet][0] + others[meet][1]


def braids_near(stock, picture):
    # Told is a dict from each braid that few slides lead to, none a twine, to (these slides, those that lead back).
    near = {picture: ((), ())}
    for many in range(MOST_SLIDES):
        for here in list(near):
            for slide in slides_at(here):
                then = slid_or_none(stock, here, slide)
                if then is not None and then not in near:
                    near[then] = (near[here][0] + (slide,), (slide_back(here, slide),) + near[here][1])
    return near


def slides_at(picture):
    found = []
    for at in range(len(picture[1])):
        found.extend([("turn", at, "left"), ("turn", at, "right"), ("pair", at), ("three", at)])
    return found


def slide_back(picture, slide):
    if slide[0] == "turn":
        return ("turn", slide[1], BACK_SIDE[slide[2]])
    if slide[0] == "pair":
        layer = picture[1][slide[1]]
        return ("twine", slide[1], layer[0], layer[1][0])
    return slide

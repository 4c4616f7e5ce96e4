"""Words that lead on a braid's wires: what the braid does to letters."""


def words_of(stock, picture):
    words = [(i + 1,) for i in range(len(picture[0]))]
    for place, step in picture[1]:
        left = words[place]
        right = words[place + 1]
        if step == ("over",):
            pair = [word_behind(word_behind(left, right), opposite(left)), left]
        else:
            pair = [right, word_behind(word_behind(opposite(right), left), right)]
        words = words[:place] + pair + words[place + 2:]
    return tuple(words)


def opposite(word):
    return tuple([-number for number in reversed(word)])


def word_behind(one, other):
    # Both are reduced: so numbers go out where the two meet, and nowhere else.
    gone = 0
    while gone < min(len(one), len(other)) and one[-1 - gone] == -other[gone]:
        gone = gone + 1
    return one[:len(one) - gone] + other[gone:]

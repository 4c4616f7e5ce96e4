"""What a whole number and a name are."""

SMALL_LETTERS = "abcdefghijklmnopqrstuvwxyz"
MOST_LETTERS = 8
STEP_WORDS = ("cross", "cup", "cap", "over", "under")


def is_whole(thing):
    # Python counts True and False among the ints; the document doesn't.
    return isinstance(thing, int) and not isinstance(thing, bool)


def is_name(thing):
    if not isinstance(thing, str) or thing in STEP_WORDS:
        return False
    if not 1 <= len(thing) <= MOST_LETTERS:
        return False
    return all([letter in SMALL_LETTERS for letter in thing])

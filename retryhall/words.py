"""Numbers and words: how two numbers are reckoned, and which texts write a number, a slot or a fault's name."""

# This is 2 ** 64, written out since the top of a module holds plain values alone.
WIDE = 18446744073709551616

WORDS = ("plus", "minus", "times", "less", "same")
FIGURES = "0123456789"
SLOTS = "abcdefgh"
LETTERS = "abcdefghijklmnopqrstuvwxyz"


def reckon(word, one, other):
    if word == "plus":
        return (one + other) % WIDE
    if word == "minus":
        return (one - other) % WIDE
    if word == "times":
        return (one * other) % WIDE
    if word == "less":
        return 1 if one < other else 0
    return 1 if one == other else 0


# True and False are ints to Python, yet no whole numbers.
def is_whole(value):
    return isinstance(value, int) and not isinstance(value, bool)


def is_number(value):
    return is_whole(value) and 0 <= value < WIDE


def number_of(text):
    # The length comes first: Python itself refuses to read a text of very many figures.
    if not 1 <= len(text) <= 20 or not is_made_of(text, FIGURES):
        return None
    if text[0] == "0" and text != "0":
        return None
    number = int(text)
    return number if number < WIDE else None


def is_word(text):
    return text in WORDS


def is_slot(text):
    # A longer text, or the one without signs, could also be found within SLOTS.
    return len(text) == 1 and text in SLOTS


def slot_index(slot):
    return SLOTS.find(slot)


def is_name(text):
    return 1 <= len(text) <= 8 and is_made_of(text, LETTERS)


# Python's own isdigit and isalpha take signs of other scripts too.
def is_made_of(text, signs):
    return all([sign in signs for sign in text])

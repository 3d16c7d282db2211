"""The shapes that values have: numbers, names, words, and rows of them."""

LETTERS = "abcdefghijklmnopqrstuvwxyz"
SIGNS = "abcdefghijklmnopqrstuvwxyz0123456789."
DIGITS = "0123456789"


def is_number(thing, least=None):
    """Whether thing is a number, and not below the least, if there is one."""
    if not isinstance(thing, int) or isinstance(thing, bool):
        return False
    return least is None or thing >= least


def is_name(thing):
    """Whether thing is a NAME."""
    if not isinstance(thing, str) or thing == "":
        return False
    return thing[0] in LETTERS and all([sign in SIGNS for sign in thing])


def is_word(thing):
    """Whether thing is a WORD, a NAME without points."""
    return is_name(thing) and "." not in thing


def are_words(things):
    """Whether these are one or more different WORDs."""
    return len(things) > 0 and all([is_word(thing) for thing in things]) and len(set(things)) == len(things)


def number_in(text):
    """The number that is written so in digits without leading zeros; None if none is."""
    if text == "" or not all([sign in DIGITS for sign in text]) or text[0] == "0" and text != "0":
        return None
    number = 0
    # Python's own reading of digits stops at some thousand of them.
    for sign in text:
        number = 10 * number + DIGITS.index(sign)
    return number


def is_row(thing, many):
    """Whether thing is a tuple of so many things."""
    return isinstance(thing, tuple) and len(thing) == many


def ascends(row):
    """Whether each one of a row of things of one kind is less than the next."""
    return all([row[place] < row[place + 1] for place in range(len(row) - 1)])


def frozen(thing):
    """The same with tuples for lists at any depth: nobody else can change it then."""
    if isinstance(thing, (list, tuple)):
        return tuple([frozen(part) for part in thing])
    return thing

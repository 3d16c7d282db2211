"""The shapes that values have: numbers, names, and rows of them."""

LETTERS = "abcdefghijklmnopqrstuvwxyz"
SIGNS = "abcdefghijklmnopqrstuvwxyz0123456789."


def is_number(thing, least=None):
    """Whether thing is a number, and not below the least, if there is one."""
    if not isinstance(thing, int) or isinstance(thing, bool):
        return False
    return least is None or thing >= least


def is_name(thing):
    """Whether thing is a NAME."""
    if not isinstance(thing, str) or thing == "":
        return False
    return thing[0] in LETTERS and all([sign in SIGNS for sign in thing])


def is_row(thing, many):
    """Whether thing is a tuple of so many things."""
    return isinstance(thing, tuple) and len(thing) == many


def ascends(row):
    """Whether each one of a row of things of one kind is less than the next."""
    return all([row[place] < row[place + 1] for place in range(len(row) - 1)])


def frozen(thing):
    """The same with tuples for lists at any depth: nobody else can change it then."""
    if isinstance(thing, (list, tuple)):
        return tuple([frozen(part) for part in thing])
    return thing

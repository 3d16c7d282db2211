"""A desk at which requests about a nest are answered."""

from joinlags.errors import BadLine, BadQueue, NoBlock, NoFit, NoQueue, NoStep, NothingDone, NoWorker
from joinlags.nests import Nest
from joinlags.shapes import is_name, is_word, number_in

# What stands behind the first word of each request, a sign for a word: b a BLOCK or another WORD,
# n a NAME, 0 a number from 0, 1 a number from 1.
REQUESTS = {"table": "b", "size": "b", "held": "", "ring": "", "sums": "", "at": "0", "queue": "bn", "lag": "bn",
            "longest": "b", "row": "b1", "same": "bb", "set": "bb00", "swap": "bb", "back": ""}


def said(word, kind):
    """What a word of a request says, of the kind that a sign in REQUESTS tells; None if it is wrong."""
    if kind == "b":
        return word if is_word(word) else None
    if kind == "n":
        return word if is_name(word) else None
    number = number_in(word)
    return None if number == 0 and kind == "1" else number


def request_in(line):
    """The pair (first word, what the others say) of the request in the line; None if there is none."""
    words = line.split(" ")
    kinds = REQUESTS.get(words[0])
    if kinds is None or len(kinds) != len(words) - 1:
        return None
    found = [said(word, kind) for word, kind in zip(words[1:], kinds)]
    return None if None in found else (words[0], found)


def sheet_of(text):
    """The pair (Nest, requests) that the text writes."""
    lines = text.split("\n")
    middle = lines.index("") if "" in lines else len(lines)
    # A text that begins with the line that parts has no nest: line 0 is wrong then.
    nest = Nest("\n".join(lines[:max(1, middle)]))
    if middle == len(lines):
        raise BadLine(len(lines))
    requests = [request_in(line) for line in lines[middle + 1:]]
    if None in requests:
        raise BadLine(middle + 1 + requests.index(None))
    return nest, requests


def word_of(thing):
    """A number or word as it stands in an answer, - for None."""
    return "-" if thing is None else f"{thing}"


def row_of(things):
    """Things with blanks between, - for no row at all."""
    return "-" if things is None else " ".join([word_of(thing) for thing in things])


def rows_of(rows):
    """Rows of things, - for None."""
    return "-" if rows is None else "; ".join([row_of(row) for row in rows])


def table_answer(table):
    """The entries of a Table; held for None."""
    return "held" if table is None else rows_of(table.rows())


def ring_answer(nest):
    """The steps of the ring, without what they go over: the WORD tells that."""
    ring = nest.held_ring()
    return rows_of(None if ring is None else [step[1:] for step in ring])


def table_told(nest, word, rest):
    """The answer to a request that asks for something of a block alone, or for a row of it."""
    if word == "size":
        return row_of(nest.size(rest[0]))
    if word == "longest":
        many = nest.longest(rest[0])
        return "endless" if many is None else word_of(many)
    if word == "same":
        return "yes" if nest.table(rest[0]) == nest.table(rest[1]) else "no"
    return table_answer(nest.table(rest[0]) if word == "table" else nest.row(rest[0], rest[1]))


def told(nest, word, rest):
    """The answer to a request that changes nothing."""
    if word == "held":
        return word_of(nest.first_held())
    if word == "ring":
        return ring_answer(nest)
    if word == "sums":
        return row_of(nest.ring_sums())
    if word == "at":
        return row_of(nest.ring_queue(rest[0]))
    if word == "queue":
        return row_of(nest.queue_at(rest[0], rest[1]))
    if word == "lag":
        return word_of(nest.lag(rest[0], rest[1]))
    return table_told(nest, word, rest)


class Desk:
    """A Nest as it stands, and those that it was changed from."""

    def __init__(self, nest):
        self._nest = nest
        self._past = []

    def done(self, word, rest):
        """The answer to a request, after what it asks for was done."""
        if word == "back":
            if len(self._past) == 0:
                raise NothingDone()
            self._nest = self._past.pop()
        elif word == "set":
            self._change(self._nest.changed(rest[0], rest[1], rest[2], rest[3]))
        elif word == "swap":
            self._change(self._nest.swapped(rest[0], rest[1]))
        else:
            return told(self._nest, word, rest)
        return "done"

    def _change(self, nest):
        self._past.append(self._nest)
        self._nest = nest


def answer(desk, request):
    """The answer to a request, also to one that is refused."""
    word, rest = request
    try:
        return desk.done(word, rest)
    except NoBlock:
        return "refused NoBlock"
    except NoFit:
        return "refused NoFit"
    except NoStep:
        return "refused NoStep"
    except NoQueue:
        return "refused NoQueue"
    except NoWorker:
        return "refused NoWorker"
    except BadQueue:
        return "refused BadQueue"
    except NothingDone:
        return "refused NothingDone"


def answers(text):
    """The list of the answers to the requests behind the lines of a nest."""
    nest, requests = sheet_of(text)
    desk = Desk(nest)
    return [answer(desk, request) for request in requests]

"""Parts of nets, and what they are to everything around them: tables between their doors."""

from joinlags.errors import NoDoor, NoFit, NoTable
from joinlags.judge import never_held
from joinlags.nets import arcs_of, is_net, least_sums
from joinlags.shapes import frozen, is_number, is_row


def are_doors(workers, thing):
    """Whether thing is a tuple of one or more different workers."""
    if not isinstance(thing, tuple) or len(thing) == 0 or not all([door in workers for door in thing]):
        return False
    return len(set(thing)) == len(thing)


def is_part(thing):
    """Whether thing is a PART."""
    return is_row(thing, 2) and is_net(thing[0]) and are_doors(thing[0][0], thing[1])


def plus(entry, other):
    """The sum of two entries."""
    return None if entry is None or other is None else entry + other


def is_most(entry, other):
    """Whether the entry is at most the other one."""
    return other is None or (entry is not None and entry <= other)


def is_square(thing):
    """Whether thing is a tuple of one or more rows of entries, each as long as there are rows."""
    if not isinstance(thing, tuple) or len(thing) == 0 or not all([is_row(row, len(thing)) for row in thing]):
        return False
    return all([entry is None or is_number(entry) for row in thing for entry in row])


def is_between(rows, i, j):
    """Whether entry (i, j) is as a TABLE of these rows has it."""
    there, back = rows[i][j], rows[j][i]
    if i == j and there != 0 or (there is None) != (back is None):
        return False
    if i != j and there is not None and there + back < 1:
        return False
    return all([is_most(there, plus(rows[i][m], rows[m][j])) for m in range(len(rows))])


def is_table(thing):
    """Whether thing is a TABLE."""
    if not is_square(thing):
        return False
    return all([is_between(thing, i, j) for i in range(len(thing)) for j in range(len(thing))])


def closed(many, arcs, least=1):
    """The rows of the least sums between so many places over arcs (from, to, cost).

    Where there is an arc, there is one back, too. None if a ring of arcs sums up to less than the
    least, which is 1 or 0; with 1 the rows are a TABLE.
    """
    places = range(many)
    sums = {(i, i): 0 for i in places}
    for i, j, cost in arcs:
        sums[i, j] = min(cost, sums.get((i, j), cost))
    for m in places:
        for i in places:
            for j in places:
                if (i, m) in sums and (m, j) in sums:
                    total = sums[i, m] + sums[m, j]
                    sums[i, j] = min(total, sums.get((i, j), total))
    # A ring over two places or more has some of them twice; a sum below 0 reaches the place itself.
    if any([sums[i, j] + sums[j, i] < least if i != j else sums[i, i] < 0 for i, j in sums]):
        return None
    return tuple([tuple([sums.get((i, j)) for j in places]) for i in places])


def arcs_among(rows, places):
    """The arcs (from, to, cost) that a TABLE stands for if its doors are at these places."""
    return [(places[i], places[j], cost) for i, row in enumerate(rows) for j, cost in enumerate(row)
            if i != j and cost is not None]


def picked(rows, places):
    """The TABLE of the doors of this one at these places."""
    return tuple([tuple([rows[i][j] for j in places]) for i in places])


def check_door(places, many):
    """Raise NoDoor for the first of the places that is none of so many doors."""
    for place in places:
        if place < 0 or place >= many:
            raise NoDoor(place)


class Table:
    """A table between doors. It does not change."""

    def __init__(self, rows):
        self._rows = frozen(rows)
        if not is_table(self._rows):
            raise NoTable()

    def rows(self):
        """The TABLE."""
        return self._rows

    def __len__(self):
        return len(self._rows)

    def __getitem__(self, at):
        i, j = at
        check_door((i, j), len(self._rows))
        return self._rows[i][j]

    def __iter__(self):
        raise TypeError("a Table is not iterated over")

    def is_within(self, other):
        """Whether each entry is at most that of the other Table."""
        check_lengths(self._rows, other._rows)
        places = range(len(self._rows))
        return all([is_most(self._rows[i][j], other._rows[i][j]) for i in places for j in places])

    def __or__(self, other):
        if not isinstance(other, Table):
            return NotImplemented
        check_lengths(self._rows, other._rows)
        pairs = [list(zip(row, beside)) for row, beside in zip(self._rows, other._rows)]
        return Table([[mine if is_most(their, mine) else their for mine, their in row] for row in pairs])

    def __and__(self, other):
        if not isinstance(other, Table):
            return NotImplemented
        check_lengths(self._rows, other._rows)
        places = list(range(len(self._rows)))
        rows = closed(len(places), arcs_among(self._rows, places) + arcs_among(other._rows, places))
        if rows is None:
            raise NoTable()
        return Table(rows)

    def some(self, places):
        """The Table of the doors at these places, in this order."""
        check_door(places, len(self._rows))
        return Table(picked(self._rows, places))

    def needed(self):
        """The set of the pairs of different doors whose entry no door between makes up for."""
        rows = self._rows
        places = range(len(rows))
        return tuple([(i, j) for i in places for j in places if i != j and rows[i][j] is not None
                      and all([not is_most(plus(rows[i][m], rows[m][j]), rows[i][j])
                               for m in places if m != i and m != j])])

    def __eq__(self, other):
        return isinstance(other, Table) and self._rows == other._rows


def check_lengths(one, other):
    """Raise NoFit if there are not as many of the one as of the other."""
    if len(one) != len(other):
        raise NoFit()


def as_table(rows):
    """The Table of these rows; None for None."""
    return None if rows is None else Table(rows)


def table_of(part):
    """The Table of the PART; None if somebody can be held in its NET alone."""
    net, doors = part
    if not never_held(net):
        return None
    arcs = arcs_of(net, 1, 0)
    rows = []
    for door in doors:
        sums, _, _ = least_sums(arcs, {door: 0})
        rows.append([sums.get(other) for other in doors])
    return Table(rows)


def renamed(net, workers, mark):
    """The QUEUEs of the net with the mark ahead of their NAMEs, between workers named as the dict tells."""
    return [(mark + name, workers[start], workers[end], room, notice) for name, start, end, room, notice in net[1]]


def net_with(workers, queues):
    """The NET with these workers, that may be named twice, and these QUEUEs."""
    return tuple(sorted(set(workers))), tuple(sorted(queues))


def joined(part, other):
    """The NET of both PARTs, in which the doors at the same places are one worker."""
    check_lengths(part[1], other[1])
    names = {worker: "a." + worker for worker in part[0][0]}
    others = {worker: "b." + worker for worker in other[0][0]}
    for place, door in enumerate(other[1]):
        others[door] = names[part[1][place]]
    queues = renamed(part[0], names, "a.") + renamed(other[0], others, "b.")
    return net_with(list(names.values()) + list(others.values()), queues)


def alike(part, other):
    """Whether both PARTs are the same to every surrounding."""
    check_lengths(part[1], other[1])
    return table_of(part) == table_of(other)


def stands_for(part, other):
    """Whether nobody is ever held around part where nobody is around other."""
    return foil(part, other) is None


def doors_named(many):
    """The NAMEs of so many doors."""
    return tuple([f"d{place}" for place in range(many)])


def foil(part, other):
    """A PART of at most one queue around which nobody is held with other, but somebody with part; or None."""
    check_lengths(part[1], other[1])
    mine = table_of(part)
    their = table_of(other)
    doors = doors_named(len(part[1]))
    if their is None:
        return None
    if mine is None:
        return net_with(doors, []), doors
    pairs = [(i, j) for i in range(len(doors)) for j in range(len(doors))
             if not is_most(their[i, j], mine[i, j])]
    if len(pairs) == 0:
        return None
    i, j = pairs[0]
    return net_with(doors, [foil_queue(doors[i], doors[j], mine[i, j], their[j, i])]), doors


def foil_queue(door, other, entry, back):
    """A queue over which a way from other to door brings the entry down to 0 or less, but a greater one not.

    back is the entry from other to door beside that greater one; None if there is none.
    """
    if entry < 0 and is_most(1, back):
        return ("q", other, door, -entry, 1)
    # If back is 0 or less, the greater entry is 1 or more, so that a step of cost 0 is safe.
    notice = 1 + max(0, entry)
    room = notice if back is None else max(notice, 1 - back)
    return ("q", door, other, room, notice)


def needed_pairs(table):
    """The pairs of places (i, j), i < j, one or both ways between which are needed."""
    return sorted(set([(min(pair), max(pair)) for pair in table.needed()]))


def part_of(table):
    """The smallest PART with this Table."""
    doors = doors_named(len(table))
    workers = list(doors)
    queues = []
    for i, j in needed_pairs(table):
        low, high, there, back = doors[i], doors[j], table[i, j], table[j, i]
        if back <= 0:
            queues.append((f"q{i}.{j}", low, high, there, 1 - back))
        elif there <= 0:
            queues.append((f"q{j}.{i}", high, low, back, 1 - there))
        else:
            middle = f"w{i}.{j}"
            workers.append(middle)
            queues.append((f"q{i}.{j}", low, middle, there, 1))
            queues.append((f"q{j}.{i}", high, middle, back, 1))
    return net_with(workers, queues), doors


def needs(part):
    """What the entries of another PART with two doors must be at the least; None if this one has no table."""
    if len(part[1]) != 2:
        raise NoFit()
    table = table_of(part)
    if table is None:
        return None
    # An entry of None asks for nothing.
    return asked(table[1, 0]), asked(table[0, 1])


def asked(entry):
    """What the entry the other way of a PART around must be at the least."""
    return None if entry is None else 1 - entry


def extended(part, lags, scale):
    """A number for each worker of the NET that carries the lags of the doors on into it; None if there are none."""
    net, doors = part
    many = len(net[0])
    arcs = arcs_of(net, scale * many, 1)
    # Each door keeps its distance from the first one.
    for place, door in enumerate(doors):
        gap = many * (lags[place] - lags[0])
        arcs.extend([(door, doors[0], gap, None), (doors[0], door, -gap, None)])
    sums, _, wrong = least_sums(arcs, {worker: 0 for worker in net[0]})
    if wrong is not None:
        return None
    lift = many * lags[0] + sums[doors[0]]
    return tuple([lift - sums[worker] for worker in net[0]])

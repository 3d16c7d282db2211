"""Chains of any number of copies of one link, judged without being laid out."""

from math import perm

from joinlags.errors import NoFit
from joinlags.nets import arcs_of, is_net, least_sums
from joinlags.shapes import is_row
from joinlags.tables import arcs_among, are_doors, as_table, closed, net_with, picked, renamed, table_of


def is_link(thing):
    """Whether thing is a LINK."""
    if not is_row(thing, 3) or not is_net(thing[0]):
        return False
    net, near, far = thing
    if not are_doors(net[0], near) or not are_doors(net[0], far) or len(near) != len(far):
        return False
    return all([door not in near for door in far])


def copy_names(link, place, before):
    """The NAMEs of the workers of the copy at this place, the dict before being that of the copy ahead or None."""
    net, near, far = link
    names = {worker: f"{worker}.{place}" for worker in net[0]}
    if before is not None:
        for door, other in zip(near, far):
            names[door] = before[other]
    return names


def copies(link, many):
    """A list of the NAMEs of the workers, a dict for each of so many copies in line."""
    rows = [copy_names(link, 0, None)]
    for place in range(1, many):
        rows.append(copy_names(link, place, rows[-1]))
    return rows


def laid_out(link, rows):
    """The NET of the copies with these NAMEs of the workers."""
    queues = []
    for place, names in enumerate(rows):
        queues.extend([(f"{name}.{place}", names[start], names[end], room, notice)
                       for name, start, end, room, notice in link[0][1]])
    return net_with([name for names in rows for name in names.values()], queues)


def chain(link, many):
    """The LINK of many copies in line."""
    _, near, far = link
    rows = copies(link, many)
    return (laid_out(link, rows), tuple([rows[0][door] for door in near]),
            tuple([rows[-1][door] for door in far]))


def circle(link, many):
    """The NET of many copies in line, the last of which leads on to the first."""
    _, near, far = link
    rows = copies(link, many)
    # No copy comes behind the last one, so only it has the NAMEs of its far doors.
    for door, other in zip(near, far):
        rows[-1][other] = rows[0][door]
    return laid_out(link, rows)


def glued(link, other):
    """The LINK of the one and then the other in line."""
    net, near, far = link
    then, middle, end = other
    if len(near) != len(middle):
        raise NoFit()
    names = {worker: "a." + worker for worker in net[0]}
    others = {worker: "b." + worker for worker in then[0]}
    for door, mine in zip(middle, far):
        others[door] = names[mine]
    queues = renamed(net, names, "a.") + renamed(then, others, "b.")
    both = net_with(list(names.values()) + list(others.values()), queues)
    return both, tuple([names[door] for door in near]), tuple([others[door] for door in end])


# The rows of a chain are the rows of its Table: those of the near doors and then those of
# the far ones. Where a step is None, somebody can be held in the chain.


def in_line(rows, then):
    """The rows of two chains in line, of their rows; None if somebody can be held then."""
    half = len(rows) // 2
    arcs = arcs_among(rows, list(range(2 * half))) + arcs_among(then, list(range(half, 3 * half)))
    found = closed(3 * half, arcs)
    return None if found is None else picked(found, list(range(half)) + list(range(2 * half, 3 * half)))


def chain_rows(rows, many):
    """The rows of many copies in line, of those of one copy; None if somebody can be held."""
    found = None
    power = rows
    while power is not None:
        if many % 2 == 1:
            found = power if found is None else in_line(found, power)
            if found is None:
                return None
        many = many // 2
        if many == 0:
            return found
        power = in_line(power, power)
    return None


def link_rows(link):
    """The rows of one copy; None if somebody can be held in it."""
    net, near, far = link
    table = table_of((net, tuple(near) + tuple(far)))
    return None if table is None else table.rows()


def chain_table(link, many):
    """The Table of the near and then the far doors of many copies; None if somebody can be held."""
    rows = link_rows(link)
    return None if rows is None else as_table(chain_rows(rows, many))


def steady(half):
    """A number of copies from which on, with so many near doors, nothing changes between these."""
    return 1 + sum([perm(half, 2 * pairs) for pairs in range(1, half // 2 + 1)])


def near_rows(rows):
    """The TABLE of the near doors alone."""
    return picked(rows, list(range(len(rows) // 2)))


def is_endless(rows):
    """Whether nobody is ever held in any chain of copies with these rows."""
    many = steady(len(rows) // 2)
    longer = chain_rows(rows, many + 1)
    return longer is not None and near_rows(chain_rows(rows, many)) == near_rows(longer)


def longest_rows(rows):
    """The greatest number of copies in which nobody is ever held; 0 if rows is None; None if there is none."""
    if rows is None:
        return 0
    if is_endless(rows):
        return None
    # powers[k] are the rows of 2 ** k copies.
    powers = [rows]
    longer = in_line(rows, rows)
    while longer is not None:
        powers.append(longer)
        longer = in_line(longer, longer)
    many = 0
    found = None
    for power in powers[::-1]:
        more = power if found is None else in_line(found, power)
        many = 2 * many
        if more is not None:
            found = more
            many = many + 1
    return many


def longest(link):
    """The greatest number of copies in line in which nobody is ever held; None if there is none."""
    return longest_rows(link_rows(link))


def endless_rows(link):
    """The rows of one copy if nobody is ever held in any chain; otherwise None."""
    rows = link_rows(link)
    return rows if rows is not None and is_endless(rows) else None


def settled(link):
    """The least number of copies from which on nothing changes between the near doors; None if there is none."""
    rows = endless_rows(link)
    if rows is None:
        return None
    last = near_rows(chain_rows(rows, steady(len(rows) // 2)))
    # More copies only add ways, so what is as at last stays so.
    many = 1
    found = rows
    while near_rows(found) != last:
        found = in_line(found, rows)
        many = many + 1
    return many


def endless(link):
    """The Table of the near doors of chains that are long enough; None if there is none."""
    rows = endless_rows(link)
    return None if rows is None else as_table(near_rows(chain_rows(rows, steady(len(rows) // 2))))


def even_lags(link):
    """Lags as for the NET, the same at the near and the far door of each place; None if there are none."""
    net, near, far = link
    arcs = arcs_of(net, len(net[0]), 1)
    for door, other in zip(near, far):
        arcs.extend([(door, other, 0, None), (other, door, 0, None)])
    sums, _, wrong = least_sums(arcs, {worker: 0 for worker in net[0]})
    return None if wrong is not None else tuple([-sums[worker] for worker in net[0]])


def goes_round(link):
    """Whether nobody is ever held in a circle of copies."""
    return even_lags(link) is not None

"""Whether anybody can ever be held, over all drops, and what shows it."""

from joinlags.errors import NoFit, NoStep
from joinlags.nets import Way, arcs_of, arcs_to, check_worker, least_sums, ring_costs
from joinlags.shapes import frozen, is_number, is_row


def graded(net, parts):
    """What least_sums tells of a step's cost being split in parts and 1 being taken off.

    A ring of so many steps as parts or fewer comes below 0 exactly if it is bad.
    """
    return least_sums(arcs_of(net, parts, 1), {worker: 0 for worker in net[0]})


def never_held(net):
    """Whether no worker is ever held, with any DROPS."""
    return graded(net, len(net[0]))[2] is None


def lags(net):
    """A number for each worker, that together show that nobody is ever held; None if somebody can be."""
    return lags_in(net, len(net[0]))


def lags_in(net, parts):
    """The same as lags with parts in the place of the number of workers; None if there is none."""
    sums, _, wrong = graded(net, parts)
    return tuple([-sums[worker] for worker in net[0]]) if wrong is None else None


def shows_never(net, thing):
    """Whether thing is a tuple such as lags returns for the net."""
    parts = len(net[0])
    if not is_row(thing, parts) or not all([is_number(part) for part in thing]):
        return False
    lag = {worker: thing[place] for place, worker in enumerate(net[0])}
    return all([(notice - 1) * parts < lag[start] - lag[end] < room * parts
                for _, start, end, room, notice in net[1]])


def least_parts(net):
    """The least parts for which there are lags; None if somebody can be held."""
    if not never_held(net):
        return None
    # The number of workers is enough, so this comes to an end.
    parts = 1
    while lags_in(net, parts) is None:
        parts = parts + 1
    return parts


def least_cost(net, worker, other):
    """The least cost of a way from worker to other; None if there is none. Nobody is ever held in the net."""
    sums, _, _ = least_sums(arcs_of(net, 1, 0), {worker: 0})
    return sums.get(other)


def lag_room(net, worker, other):
    """The pair (low, high) that the lag of worker over other lies between; None if somebody can be held."""
    check_worker(net, worker)
    check_worker(net, other)
    if not never_held(net):
        return None
    if worker == other:
        return 0, 0
    high = least_cost(net, worker, other)
    if high is None:
        return None, None
    return -least_cost(net, other, worker), high


def least_way(net, worker, other):
    """The steps of a way of least cost; None if there is no way or somebody can be held."""
    check_worker(net, worker)
    check_worker(net, other)
    if not never_held(net):
        return None
    sums, last, _ = least_sums(arcs_of(net, 1, 0), {worker: 0})
    return tuple([arc[3] for arc in arcs_to(last, other)]) if other in sums else None


def ring_behind(last, node):
    """The arcs of the ring that the node is on or behind; last is what least_sums tells."""
    # From any node of it a ring comes first within so many arcs back.
    for _ in last:
        node = last[node][0]
    found = [last[node]]
    while found[-1][0] != node:
        found.append(last[found[-1][0]])
    return found[::-1]


def bad_ring(net):
    """A bad RING; None if nobody is ever held."""
    _, last, wrong = graded(net, len(net[0]))
    if wrong is None:
        return None
    return tuple([arc[3] for arc in ring_behind(last, wrong)])


def ring_price(net, ring):
    """The sum of the rooms of the queues that the RING goes along."""
    rooms = {queue[0]: queue[3] for queue in net[1]}
    return sum([rooms[name] for name, side in ring if side == "along"])


def cheapest_ring(net):
    """A bad RING of the least price among the bad ones; None if nobody is ever held."""
    found = [(ring_price(net, ring), ring) for ring, cost in ring_costs(net) if cost <= 0]
    return min(found)[1] if len(found) > 0 else None


def is_step(known, thing):
    """Whether thing is a step over a queue whose NAME is a key of the dict known."""
    # A list cannot be looked up in a dict, so the kind comes first.
    if not is_row(thing, 2) or not isinstance(thing[0], str):
        return False
    return thing[0] in known and thing[1] in ("along", "against")


def is_bad_ring(net, thing):
    """Whether thing is a bad RING of the net, begun at any of its workers."""
    known = {queue[0]: queue for queue in net[1]}
    if not isinstance(thing, tuple) or len(thing) == 0 or not all([is_step(known, step) for step in thing]):
        return False
    name, side = thing[0]
    start = known[name][1] if side == "along" else known[name][2]
    try:
        way = Way(net, start, [step[0] for step in thing])
    except NoStep:
        return False
    return way.steps() == thing and way.is_bad()


def fewest_drops(net):
    """The least number of pairs in DROPS that hold somebody; None if there are none."""
    ring = cheapest_ring(net)
    return None if ring is None else ring_price(net, ring)


def holding(net):
    """DROPS of the fewest pairs that hold somebody; None if there are none."""
    ring = cheapest_ring(net)
    return None if ring is None else sprung(net, ring, 0)[0]


def ring_ends(known, ring, silent):
    """A dict from each worker of the RING to a number: along a queue of it the lead is its room.

    Against the queues, each of which can have notice - 1, the leads add up to silent, the price of
    the RING. One number is 0, others may be below it.
    """
    number = 0
    ends = {}
    for name, side in ring:
        _, start, end, room, notice = known[name]
        if side == "along":
            ends[start] = number
            number = number - room
        else:
            ends[end] = number
            lead = min(silent, notice - 1)
            number = number + lead
            silent = silent - lead
    return ends


def sprung(net, ring, first):
    """A pair (drops, ends): as many DROPS as the price of the bad RING hold its workers at these ENDS."""
    steps = frozen(ring)
    if not is_bad_ring(net, steps):
        raise NoFit()
    known = {queue[0]: queue for queue in net[1]}
    ends = ring_ends(known, steps, ring_price(net, steps))
    lift = first - min([ends[worker] for worker in ends])
    drops = []
    for name, side in steps:
        if side == "against":
            _, start, end, _, _ = known[name]
            drops.extend([(name, number + lift) for number in range(ends[end] + 1, ends[start] + 1)])
    return tuple(sorted(drops)), tuple([ends[worker] + lift if worker in ends else None for worker in net[0]])

"""Where workers stop if some of them die."""

from joinlags.early import drops_at, is_stop, lowered
from joinlags.judge import never_held
from joinlags.nets import arcs_of, check_worker, idle, least_sums
from joinlags.reach import firm_arcs
from joinlags.shapes import ascends, is_number, is_row


def is_deaths(net, thing):
    """Whether thing is DEATHS of the net."""
    if not isinstance(thing, tuple) or not all([is_row(pair, 2) for pair in thing]):
        return False
    known = {worker: True for worker in net[0]}
    for worker, number in thing:
        # A list cannot be looked up in a dict, so the kind comes first.
        if not isinstance(worker, str) or worker not in known or not is_number(number, 0):
            return False
    return ascends([worker for worker, _ in thing])


def stopped_part(net, ends):
    """The net of the workers that have numbers in the ENDS, and their COUNTS."""
    count = {worker: ends[place] for place, worker in enumerate(net[0]) if ends[place] is not None}
    part = ([worker for worker in net[0] if worker in count], [queue for queue in net[1] if queue[1] in count])
    return part, [count[worker] for worker in part[0]]


def parts_from(net, ends):
    """Whether no queue joins a worker that has a number in the ENDS and one that has None."""
    stops = {worker: ends[place] is not None for place, worker in enumerate(net[0])}
    return all([stops[queue[1]] == stops[queue[2]] for queue in net[1]])


def going_at(workers, counts, dying):
    """A dict with the workers as keys that are not at their deaths; None if one is beyond it."""
    rows = list(zip(workers, counts))
    if any([worker in dying and count > dying[worker] for worker, count in rows]):
        return None
    return {worker: True for worker, count in rows if worker not in dying or count < dying[worker]}


def can_stop(net, deaths, ends):
    """Whether, with these DEATHS and some DROPS, the workers are held just at these ENDS."""
    dying = {worker: number for worker, number in deaths}
    # Who dies, or never passes anything, is held at some number.
    sure = list(dying) + list(idle(net))
    part, counts = stopped_part(net, ends)
    if not parts_from(net, ends) or not all([worker in part[0] for worker in sure]):
        return False
    going = going_at(part[0], counts, dying)
    return going is not None and is_stop(part, counts, going)


def stop_drops(net, deaths, ends):
    """DROPS of the fewest pairs with which the workers are held just at these ENDS; None if there are none."""
    if not can_stop(net, deaths, ends):
        return None
    part, counts = stopped_part(net, ends)
    return drops_at(part, counts, going_at(part[0], counts, {worker: number for worker, number in deaths}))


def first_needs(net, deaths):
    """What lowered tells of the numbers of the dead; None if somebody can be held without them."""
    if not never_held(net):
        return None
    # Nobody is held by itself, so who is held waits, over the queues of a way, for a dead one.
    return lowered(arcs_of(net, 1, 0), {worker: number for worker, number in deaths})


def first_stops(net, deaths):
    """ENDS: for each worker the least number at which it is held; None if all needs no DEATHS."""
    found = first_needs(net, deaths)
    return None if found is None else tuple([found[0].get(worker) for worker in net[0]])


def last_stops(net, deaths):
    """ENDS: for each worker the greatest number at which it is held; None as in first_stops."""
    if not never_held(net):
        return None
    # The greatest numbers that leads allow stop everyone: some lead is the greatest or 0.
    sums, _, _ = least_sums(firm_arcs(net), {worker: number for worker, number in deaths})
    return tuple([sums.get(worker) for worker in net[0]])


def first_way(net, deaths, worker):
    """The steps of a way to a dead worker that shows why this one cannot stop earlier; None if it never does."""
    check_worker(net, worker)
    found = first_needs(net, deaths)
    if found is None or worker not in found[0]:
        return None
    steps = []
    place = worker
    while place in found[1]:
        steps.append(found[1][place][3])
        place = found[1][place][1]
    return tuple(steps)

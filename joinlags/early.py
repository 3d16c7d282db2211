"""What runs can leave, and how early workers can be held."""

from joinlags.nets import Way, arcs_of, check_worker, least_sums
from joinlags.reach import can_stand, spans, thinned


def is_low(queue, lead):
    """Whether a queue of this lead can be silent for its end."""
    return lead < queue[4]


def is_high(queue, lead):
    """Whether a queue of this lead can be full for its start."""
    return lead >= queue[3]


def silences(net, counts, going):
    """The triples of spans that must be silent at these COUNTS, as few lacking items as can be.

    There is one for each of the workers going, the keys of a dict, at which no high queue starts:
    the one of the least lead that ends there. None if some such worker has no low one.
    """
    rows = spans(net, counts)
    blocked = {row[0][1]: True for row in rows if is_high(row[0], row[2])}
    found = []
    for worker in going:
        if worker not in blocked:
            low = [row for row in rows if row[0][2] == worker and is_low(row[0], row[2])]
            if len(low) == 0:
                return None
            least = min([row[2] for row in low])
            found.append([row for row in low if row[2] == least][0])
    return found


def is_stop(net, counts, going):
    """Whether some DROPS bring all workers just to these COUNTS and keep those going from more."""
    return can_stand(net, counts) and silences(net, counts, going) is not None


def drops_at(net, counts, going):
    """The fewest DROPS that do what is_stop asks; there are some."""
    drops = list(thinned(net, counts))
    for queue, count, lead in silences(net, counts, going):
        drops.extend([(queue[0], count + place) for place in range(1, lead + 1)])
    return tuple(sorted(drops))


def going_on(net, many, counts):
    """A dict with the workers as keys that have passed fewer than many."""
    return {worker: True for place, worker in enumerate(net[0]) if counts[place] < many}


def can_be_left(net, many, counts):
    """Whether some DROPS leave just these COUNTS at many."""
    return all([count <= many for count in counts]) and is_stop(net, counts, going_on(net, many, counts))


def price(net, many, counts):
    """The fewest pairs in DROPS that leave these COUNTS at many; None if none do."""
    if not can_be_left(net, many, counts):
        return None
    crowded = sum([max(0, lead - queue[3]) for queue, _, lead in spans(net, counts)])
    return crowded + sum([lead for _, _, lead in silences(net, counts, going_on(net, many, counts))])


def drops_that_leave(net, many, counts):
    """DROPS of the fewest pairs that leave these COUNTS at many; None if none do."""
    if not can_be_left(net, many, counts):
        return None
    return drops_at(net, counts, going_on(net, many, counts))


def need(way):
    """The greatest cost of a beginning of the Way, or 0."""
    most = 0
    total = 0
    for cost in way.costs():
        total = total + cost
        most = max(most, total)
    return most


def lowered(arcs, first):
    """Bring numbers of workers down as far as ways to others allow it.

    first is a dict from worker to the number at the beginning. Whoever can go over an arc needs no
    more than its cost and what is needed behind it. Returns the dict of the numbers in the end, and
    a dict from each worker that got its number so to the arc.
    """
    needs = {worker: first[worker] for worker in first}
    chosen = {}
    again = True
    while again:
        again = False
        for arc in arcs:
            if arc[1] in needs:
                number = max(0, needs[arc[1]] + arc[2])
                if arc[0] not in needs or number < needs[arc[0]]:
                    needs[arc[0]] = number
                    chosen[arc[0]] = arc
                    again = True
    return needs, chosen


def parted(walk, arc):
    """The walk and then the arc, that leads back to a worker on it, as a pair (stem, ring)."""
    place = [step[0] for step in walk + (arc,)].index(arc[1])
    return walk[:place], walk[place:] + (arc,)


def free_lasso(arcs, worker):
    """A pair (stem, ring) of rows of arcs, a bad RING behind the stem, of which the need is 0; or None.

    If the worker can go round a bad RING with nothing to begin with, there is one.
    """
    # To each worker the walk that leaves the most of what is earned, and what is left all along it.
    best = {worker: ((), {worker: 0})}
    again = True
    while again:
        again = False
        for arc in arcs:
            start, end, cost, _ = arc
            if start in best:
                walk, left = best[start]
                rest = left[start] - cost
                if end in left and rest >= left[end]:
                    return parted(walk, arc)
                if rest >= 0 and (end not in best or rest > best[end][1][end]):
                    best[end] = (walk + (arc,), {**left, end: rest})
                    again = True
    return None


def free_lassos(net):
    """A dict from each worker for which free_lasso finds one to this lasso."""
    arcs = arcs_of(net, 1, 0)
    found = {worker: free_lasso(arcs, worker) for worker in net[0]}
    return {worker: found[worker] for worker in net[0] if found[worker] is not None}


def needs_to(net, lassos):
    """What lowered tells if just the workers of the dict lassos need nothing.

    Each bad RING has a worker from which on it never costs anything. So these numbers are the least
    needs of all lassos.
    """
    return lowered(arcs_of(net, 1, 0), {worker: 0 for worker in lassos})


def earliest(net):
    """For each worker the least number at which it can be held; None if it never is."""
    needs, _ = needs_to(net, free_lassos(net))
    return tuple([needs.get(worker) for worker in net[0]])


def least_left(net, many):
    """COUNTS: for each worker the least count with which it is left at many."""
    needs, _ = needs_to(net, free_lassos(net))
    counts, _ = lowered(arcs_of(net, 1, 0), {worker: min(many, needs.get(worker, many)) for worker in net[0]})
    return tuple([counts[worker] for worker in net[0]])


def way_over(net, worker, arcs):
    """The Way from the worker over the queues of these arcs."""
    return Way(net, worker, [arc[3][0] for arc in arcs])


def lasso(net, worker):
    """A pair (stem, ring) of Ways from the worker with the smallest need; None if it is never held."""
    check_worker(net, worker)
    lassos = free_lassos(net)
    needs, chosen = needs_to(net, lassos)
    if worker not in needs:
        return None
    arcs = []
    place = worker
    while place in chosen:
        arcs.append(chosen[place])
        place = chosen[place][1]
    stem, ring = lassos[place]
    return way_over(net, worker, arcs + list(stem)), way_over(net, ring[0][0], ring)


def behind(net, worker):
    """The greatest difference of many and the worker's count left at many; None if it can be held."""
    check_worker(net, worker)
    needs, _ = needs_to(net, free_lassos(net))
    if worker in needs:
        return None
    sums, _, _ = least_sums(arcs_of(net, 1, 0), {worker: 0})
    return -min([sums[other] for other in sums])

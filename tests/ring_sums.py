"""What the rings of a net, and the ways without rings, cost: straight from what the document says of them."""

from joinlags.nets import rings
from samples import step_cost


def cost_of(net, steps):
    known = {queue[0]: queue for queue in net[1]}
    return sum(step_cost(known[name], side) for name, side in steps)


def price_of(net, ring):
    rooms = {queue[0]: queue[3] for queue in net[1]}
    return sum(rooms[name] for name, side in ring if side == "along")


def bad_rings(net):
    return [ring for ring in rings(net) if cost_of(net, ring) <= 0]


def turns(ring):
    """The ring begun at each of its workers."""
    return [ring[place:] + ring[:place] for place in range(len(ring))]


def steps_from(net, worker):
    """Pairs (step, where it leads)."""
    for name, start, end, _, _ in net[1]:
        if start == worker:
            yield (name, "along"), end
        if end == worker:
            yield (name, "against"), start


def straight_ways(net, worker):
    """All pairs (where it ends, steps) of ways from the worker that meet no worker twice."""
    waiting = [((worker,), ())]
    while waiting:
        workers, steps = waiting.pop()
        yield workers[-1], steps
        for step, place in steps_from(net, workers[-1]):
            if place not in workers:
                waiting.append((workers + (place,), steps + (step,)))


def cheapest_ways(net, worker):
    """A dict from each worker to the least cost of a way there, if no ring is bad."""
    found = {}
    for place, steps in straight_ways(net, worker):
        cost = cost_of(net, steps)
        found[place] = min(cost, found.get(place, cost))
    return found


def need_of(net, steps):
    """The greatest cost of a beginning."""
    return max(cost_of(net, steps[:many]) for many in range(len(steps) + 1))


def start_of(net, ring):
    name, side = ring[0]
    queue = [queue for queue in net[1] if queue[0] == name][0]
    return queue[1] if side == "along" else queue[2]


def least_need(net, worker):
    """The least need of a straight way and a bad ring behind it; None if there is none.

    A stem that meets a worker twice has a ring itself: a bad one, behind which the rest is not
    needed, or one without which there is more left.
    """
    turned = [(start_of(net, turn), turn) for ring in bad_rings(net) for turn in turns(ring)]
    needs = [need_of(net, steps + turn) for place, steps in straight_ways(net, worker)
             for start, turn in turned if start == place]
    return min(needs, default=None)

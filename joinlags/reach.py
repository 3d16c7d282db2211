"""What can stand together at one moment of a run, over all drops."""

from joinlags.nets import arcs_to, check_worker, idle, least_sums
from joinlags.runs import order_to

# An arc (from, to, weight) says that the count of the second worker is at most
# the weight above that of the first. The ground stands for a count of 0.
GROUND = ""


def most_lead(queue):
    """The greatest lead that the queue can have."""
    return queue[4] * (queue[3] + 1) - 1


def spans(net, counts):
    """A list of triples (queue, the count of its end, its lead) for all queues, in order."""
    count = {worker: counts[place] for place, worker in enumerate(net[0])}
    return [(queue, count[queue[2]], count[queue[1]] - count[queue[2]]) for queue in net[1]]


def can_stand(net, counts):
    """Whether the workers have passed just these COUNTS at one moment of some run."""
    resting = idle(net)
    if any([worker in resting and counts[place] != 0 for place, worker in enumerate(net[0])]):
        return False
    return all([0 <= lead <= most_lead(queue) for queue, _, lead in spans(net, counts)])


def thinned(net, counts):
    """The DROPS, as few as can be, with which no queue holds more than its room at these COUNTS."""
    drops = []
    for queue, count, lead in spans(net, counts):
        # Up to the count of the end there are only items. So if behind it each number
        # that is one of as many as the notice is kept, each other one is silent if dropped.
        drops.extend([(queue[0], count + place + place // (queue[4] - 1) + 1)
                      for place in range(lead - queue[3])])
    return tuple(drops)


def way_to(net, counts):
    """A pair (drops, order) that leads to these COUNTS with the fewest DROPS; None if none does."""
    if not can_stand(net, counts):
        return None
    drops = thinned(net, counts)
    return drops, order_to(net, drops, counts)


def firm_arcs(net):
    """The arcs of all that COUNTS that can stand must keep.

    For each queue, in order, there are two: that its lead is 0 or more, and that it is not too great.
    """
    arcs = []
    for queue in net[1]:
        arcs.append((queue[1], queue[2], 0))
        arcs.append((queue[2], queue[1], most_lead(queue)))
    arcs.extend([(worker, GROUND, 0) for worker in net[0]])
    arcs.extend([(GROUND, worker, 0) for worker in idle(net)])
    return arcs


def leads_over(net, worker):
    """For each worker its greatest lead over this one; None if there is no greatest."""
    check_worker(net, worker)
    sums, _, _ = least_sums(firm_arcs(net), {worker: 0})
    return tuple([sums.get(other) for other in net[0]])


def open_arcs(arcs, flow, firm):
    """The arcs (from, to, cost, (place, 1 or -1)) over which a flow can get one more or one less.

    Each of the first arcs, so many as firm, bears any flow; each other one bears 0 or 1.
    """
    found = []
    for place, (start, end, cost) in enumerate(arcs):
        if place < firm or flow[place] == 0:
            found.append((start, end, cost, (place, 1)))
        if flow[place] > 0:
            found.append((end, start, -cost, (place, -1)))
    return found


def least_flow(firm, loose):
    """The flow in rounds of least cost over arcs, the firm ones and then the loose ones.

    No round of firm arcs costs less than 0. Then each loose arc, that bears one only, is put in
    by itself: one round at most gets better by it, and the cheapest one is best.
    """
    arcs = firm + loose
    flow = [0 for _ in arcs]
    for place in range(len(firm), len(arcs)):
        start, end, cost = arcs[place]
        sums, last, _ = least_sums(open_arcs(arcs[:place], flow, len(firm)), {end: 0})
        if start in sums and sums[start] + cost < 0:
            flow[place] = 1
            for _, _, _, (other, change) in arcs_to(last, start):
                flow[other] = flow[other] + change
    return flow


def best_counts(net, firm, loose):
    """A pair (counts, flow): COUNTS that keep all firm arcs and break the loose ones the least.

    Breaking a loose arc costs as much as the lead is above the weight; flow is the certificate
    that no COUNTS cost less.
    """
    flow = least_flow(firm, loose)
    nodes = {node: 0 for node in (GROUND,) + tuple(net[0])}
    sums, _, _ = least_sums(open_arcs(firm + loose, flow, len(firm)), nodes)
    return tuple([sums[worker] - sums[GROUND] for worker in net[0]]), flow


def fullest(net):
    """The pair of best_counts for the most messages: a queue should have its room as its lead."""
    return best_counts(net, firm_arcs(net), [(queue[1], queue[2], -queue[3]) for queue in net[1]])


def most_messages(net):
    """The most messages that all queues together hold at one moment of any run."""
    return sum([min(lead, queue[3]) for queue, _, lead in spans(net, most_counts(net))])


def most_counts(net):
    """COUNTS that can stand and with which the most messages can be held."""
    return fullest(net)[0]


def most_flow(net):
    """A number for each queue: together a certificate that there are not more messages."""
    _, flow = fullest(net)
    loose = len(flow) - len(net[1])
    return tuple([flow[loose + place] + flow[2 * place] - flow[2 * place + 1] for place in range(len(net[1]))])


def cheapest_lead(net, worker, other, lead):
    """The pair of best_counts for this lead and the fewest DROPS; None if there is no such run."""
    check_worker(net, worker)
    check_worker(net, other)
    firm = firm_arcs(net) + [(other, worker, lead), (worker, other, -lead)]
    if least_sums(firm, {node: 0 for node in (GROUND,) + tuple(net[0])})[2] is not None:
        return None
    return best_counts(net, firm, [(queue[2], queue[1], queue[3]) for queue in net[1]])


def lead_price(net, worker, other, lead):
    """The fewest pairs in DROPS of a run with this lead of worker over other; None if there is none."""
    counts = lead_counts(net, worker, other, lead)
    if counts is None:
        return None
    return sum([max(0, above - queue[3]) for queue, _, above in spans(net, counts)])


def lead_counts(net, worker, other, lead):
    """COUNTS with this lead that need the fewest DROPS; None if there is no such run."""
    found = cheapest_lead(net, worker, other, lead)
    return None if found is None else found[0]


def lead_flow(net, worker, other, lead):
    """A certificate (many, flow) that fewer DROPS are not enough; None if there is no such run."""
    found = cheapest_lead(net, worker, other, lead)
    if found is None:
        return None
    _, flow = found
    loose = len(flow) - len(net[1])
    rows = [flow[loose + place] + flow[2 * place + 1] - flow[2 * place] for place in range(len(net[1]))]
    return flow[loose - 1] - flow[loose - 2], tuple(rows)

"""Nets of workers and queues, and the ways that lead through them."""

from joinlags.errors import NoQueue, NoStep, NoWorker
from joinlags.shapes import ascends, frozen, is_name, is_number, is_row


def is_queue(thing, workers):
    """Whether thing is a QUEUE between workers, a dict with their NAMEs as keys."""
    if not is_row(thing, 5):
        return False
    name, start, end, room, notice = thing
    # A list cannot be looked up in a dict, so the kinds come first.
    if not is_name(name) or not isinstance(start, str) or not isinstance(end, str):
        return False
    if start not in workers or end not in workers or start == end:
        return False
    return is_number(room, 1) and is_number(notice, 1) and notice <= room


def is_net(thing):
    """Whether thing is a NET."""
    if not is_row(thing, 2):
        return False
    workers, queues = thing
    if not isinstance(workers, tuple) or not isinstance(queues, tuple) or len(workers) == 0:
        return False
    if not all([is_name(worker) for worker in workers]) or not ascends(workers):
        return False
    known = {worker: True for worker in workers}
    if not all([is_queue(queue, known) for queue in queues]):
        return False
    return ascends([queue[0] for queue in queues])


def is_counts(net, thing):
    """Whether thing is COUNTS of the net."""
    return is_row(thing, len(net[0])) and all([is_number(count, 0) for count in thing])


def is_drops(net, thing):
    """Whether thing is DROPS of the net."""
    if not isinstance(thing, tuple) or not all([is_row(pair, 2) for pair in thing]):
        return False
    known = {queue[0]: True for queue in net[1]}
    for queue, number in thing:
        if not isinstance(queue, str) or queue not in known or not is_number(number, 1):
            return False
    return ascends(thing)


def check_worker(net, worker):
    """Raise NoWorker if the net has no such worker."""
    if worker not in net[0]:
        raise NoWorker(worker)


def incoming(net, worker):
    """The set of the NAMEs of the queues that end at the worker."""
    check_worker(net, worker)
    return tuple([queue[0] for queue in net[1] if queue[2] == worker])


def outgoing(net, worker):
    """The set of the NAMEs of the queues that start at the worker."""
    check_worker(net, worker)
    return tuple([queue[0] for queue in net[1] if queue[1] == worker])


def groups(net):
    """The ascending list of the groups, each a set of workers."""
    label = {worker: worker for worker in net[0]}
    for queue in net[1]:
        kept = label[queue[1]]
        lost = label[queue[2]]
        for worker in net[0]:
            if label[worker] == lost:
                label[worker] = kept
    found = {}
    for worker in net[0]:
        found.setdefault(label[worker], []).append(worker)
    return sorted([tuple(group) for group in found.values()])


def idle(net):
    """The set of the workers that are on a directed cycle or behind one."""
    left = {worker: True for worker in net[0]}
    before = 0
    # A worker is not idle if none of those that are left sends to it.
    while len(left) != before:
        before = len(left)
        fed = {queue[2]: True for queue in net[1] if queue[1] in left}
        left = {worker: True for worker in left if worker in fed}
    return tuple([worker for worker in net[0] if worker in left])


def step_over(queue, place):
    """The step over the queue from a worker, where it leads, its cost; None if there is none."""
    name, start, end, room, notice = queue
    if place == start:
        return (name, "along"), end, room
    if place == end:
        return (name, "against"), start, 1 - notice
    return None


def arcs_of(net, scale, toll):
    """An arc (from, to, scale * cost - toll, step) for each step that can be taken in the net."""
    arcs = []
    for queue in net[1]:
        for place in (queue[1], queue[2]):
            step, other, cost = step_over(queue, place)
            arcs.append((place, other, scale * cost - toll, step))
    return arcs


def least_sums(arcs, first):
    """The least sum of weights with which each node is come to over arcs (from, to, weight, ..).

    first is a dict from the nodes that rows of arcs may begin at to the sums that they begin with.
    Returns a dict from node to sum; a dict from node to the last arc on the way; and a node
    behind a ring of arcs with a sum below 0, or None if there is no such ring.
    """
    sums = {node: first[node] for node in first}
    last = {}
    lowered = None
    # A row of arcs that meets no node twice is done within one round less.
    for _ in range(len(set(list(first) + [arc[1] for arc in arcs]))):
        lowered = None
        for arc in arcs:
            if arc[0] in sums:
                total = sums[arc[0]] + arc[2]
                if arc[1] not in sums or total < sums[arc[1]]:
                    sums[arc[1]] = total
                    last[arc[1]] = arc
                    lowered = arc[1]
        if lowered is None:
            return sums, last, None
    return sums, last, lowered


def arcs_to(last, node):
    """The arcs that lead to the node, in order; last is what least_sums tells."""
    found = []
    while node in last:
        found.append(last[node])
        node = last[node][0]
    return found[::-1]


def stepped(row, arcs):
    """A dict from node to the pair (least sum, arcs) with one arc more than in such a dict."""
    found = {}
    for arc in arcs:
        if arc[0] in row:
            total = row[arc[0]][0] + arc[2]
            if arc[1] not in found or total < found[arc[1]][0]:
                found[arc[1]] = (total, row[arc[0]][1] + (arc,))
    return found


def shortest_ring(nodes, arcs):
    """The arcs, as few as can be, of a ring with a sum of 0 or less; there is one."""
    rows = {node: {node: (0, ())} for node in nodes}
    while True:
        rows = {node: stepped(rows[node], arcs) for node in rows}
        for node in rows:
            if node in rows[node] and rows[node][node][0] <= 0:
                return rows[node][node][1]


class Way:
    """A row of steps over the queues of a net, from worker to worker. It does not change."""

    def __init__(self, net, start, queues):
        self._net = frozen(net)
        self._queues = tuple(queues)
        check_worker(self._net, start)
        known = {queue[0]: queue for queue in self._net[1]}
        steps = []
        workers = [start]
        costs = []
        for place, name in enumerate(self._queues):
            if name not in known:
                raise NoQueue(name)
            move = step_over(known[name], workers[-1])
            if move is None:
                raise NoStep(place)
            steps.append(move[0])
            workers.append(move[1])
            costs.append(move[2])
        self._steps = tuple(steps)
        self._workers = tuple(workers)
        self._costs = tuple(costs)

    def steps(self):
        """The tuple of the steps, pairs (queue, "along") or (queue, "against")."""
        return self._steps

    def workers(self):
        """The tuple of the workers where the way stands, one more than steps."""
        return self._workers

    def cost(self):
        """The rooms of the queues gone along less the (notice - 1) of those gone against."""
        return sum(self._costs)

    def costs(self):
        """The tuple of the costs of the steps."""
        return self._costs

    def is_ring(self):
        """Whether the steps are a RING."""
        if self._workers[0] != self._workers[-1]:
            return False
        # The first worker stands twice in a ring, so a way of no step has one too many.
        many = len(self._steps)
        return len(set(self._workers)) == many and len(set(self._queues)) == many

    def is_bad(self):
        """Whether the steps are a bad RING."""
        return self.is_ring() and self.cost() <= 0

    def __len__(self):
        return len(self._steps)

    def __contains__(self, queue):
        return queue in self._queues

    def __add__(self, other):
        if not isinstance(other, Way):
            return NotImplemented
        if self._net != other._net or self._workers[-1] != other._workers[0]:
            raise NoStep(len(self._steps))
        return Way(self._net, self._workers[0], self._queues + other._queues)

    def __neg__(self):
        return Way(self._net, self._workers[-1], self._queues[::-1])

    def __mul__(self, many):
        if many > 1 and self._workers[0] != self._workers[-1]:
            raise NoStep(len(self._steps))
        # Python refuses to repeat even an empty tuple 10 ** 40 times.
        queues = self._queues * many if len(self._queues) > 0 else ()
        return Way(self._net, self._workers[0], queues)

    def __eq__(self, other):
        if not isinstance(other, Way):
            return False
        # The steps belong to the queues, so the first worker tells all the others.
        return (self._net == other._net and self._workers[0] == other._workers[0]
                and self._steps == other._steps)


def ring_costs(net):
    """A list of pairs: each RING that begins at the least of its workers, and its cost."""
    moves = {worker: [] for worker in net[0]}
    for queue in net[1]:
        moves[queue[1]].append(step_over(queue, queue[1]))
        moves[queue[2]].append(step_over(queue, queue[2]))
    found = []
    open_ways = [((), (worker,), 0) for worker in net[0]]
    while len(open_ways) > 0:
        steps, met, cost = open_ways.pop()
        for step, place, price in moves[met[-1]]:
            if place == met[0]:
                # Back over the queue that the way began with is no ring.
                if step[0] != steps[0][0]:
                    found.append((steps + (step,), cost + price))
            elif place > met[0] and place not in met:
                open_ways.append((steps + (step,), met + (place,), cost + price))
    return found


def rings(net):
    """The ascending list of all RINGs that begin at the least of their workers."""
    return sorted([ring for ring, _ in ring_costs(net)])


def slack(net):
    """The least cost of a RING; None if there is none."""
    return min([cost for _, cost in ring_costs(net)], default=None)

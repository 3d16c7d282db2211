"""Runs of a net with given drops, and where they end."""

from joinlags.errors import Dead, Full, NoQueue, NothingDone, NoWorker, Silent
from joinlags.nets import groups
from joinlags.shapes import frozen

# With given DROPS the numbers of a queue are fixed, so what it holds follows
# from the COUNTS alone. A line is a queue as the runs see it: the tuple
# (queue, start, end, room, silent), silent being the ascending list of the
# numbers at which nothing is sent on it, each other number is one of its numbers.


def silent_numbers(notice, dropped):
    """The numbers at which a queue sends nothing, of the ascending numbers of its dropped items."""
    silent = []
    last = 0
    before = 0
    for number in dropped:
        # What lies between two dropped numbers is items.
        if before != number - 1:
            last = number - 1
        if last <= number - notice:
            last = number
        else:
            silent.append(number)
        before = number
    return silent


def lines_of(net, drops):
    """The line of each queue, by its NAME."""
    dropped = {queue[0]: [] for queue in net[1]}
    for queue, number in drops:
        dropped[queue].append(number)
    lines = {}
    for name, start, end, room, notice in net[1]:
        lines[name] = (name, start, end, room, silent_numbers(notice, dropped[name]))
    return lines


def lines_at(net, lines):
    """For each worker a pair of lists: the lines that end at it, those that start at it."""
    around = {worker: ([], []) for worker in net[0]}
    for queue in net[1]:
        line = lines[queue[0]]
        around[line[2]][0].append(line)
        around[line[1]][1].append(line)
    return around


def sent_by(silent, number):
    """How many messages are sent on a line up to this number."""
    low = 0
    high = len(silent)
    while low < high:
        middle = (low + high) // 2
        if silent[middle] <= number:
            low = middle + 1
        else:
            high = middle
    return number - low


def stop_at(around, counts, worker):
    """Why the worker cannot advance: ("silent", queue) or ("full", queue); None if it can.

    counts is a dict from worker to number; a queue to a worker that has None there stops nobody.
    """
    number = counts[worker]
    for name, start, _, _, silent in around[worker][0]:
        ahead = counts[start]
        if ahead is not None and sent_by(silent, ahead) <= sent_by(silent, number):
            return ("silent", name)
    for name, _, end, room, silent in around[worker][1]:
        behind = counts[end]
        # If nothing is to be sent at the next number, this is what the queue holds now.
        if behind is not None and sent_by(silent, number + 1) - sent_by(silent, behind) > room:
            return ("full", name)
    return None


def may_pass(around, counts, limits, worker):
    """Whether the worker can advance and its limit, a number or None for no limit, lets it."""
    limit = limits[worker]
    if limit is not None and counts[worker] >= limit:
        return False
    return stop_at(around, counts, worker) is None


def go_on(around, counts, limits):
    """Let workers advance in counts up to their limits, until none can; the list of the advances.

    Who can advance still can after advances of others, so no order leads elsewhere.
    """
    order = []
    before = -1
    while len(order) != before:
        before = len(order)
        for worker in limits:
            while may_pass(around, counts, limits, worker):
                counts[worker] = counts[worker] + 1
                order.append(worker)
    return order


def limits_to(many, dying, workers):
    """For each of the workers the lesser of many and the number of its death, if it has one."""
    return {worker: min(many, dying.get(worker, many)) for worker in workers}


class Run:
    """A run of a net with given drops and deaths, in which no number has been passed yet."""

    def __init__(self, net, drops, *, deaths=()):
        self._net = frozen(net)
        self._drops = frozen(drops)
        self._deaths = {worker: number for worker, number in deaths}
        self._lines = lines_of(self._net, self._drops)
        self._around = lines_at(self._net, self._lines)
        self._passed = {worker: 0 for worker in self._net[0]}
        self._past = []

    def counts(self):
        """The COUNTS now."""
        return tuple([self._passed[worker] for worker in self._net[0]])

    def passed(self, worker):
        """The greatest number that this worker has passed."""
        if worker not in self._passed:
            raise NoWorker(worker)
        return self._passed[worker]

    def messages(self, queue):
        """The list of the messages that the queue holds, pairs (number, kind)."""
        if queue not in self._lines:
            raise NoQueue(queue)
        _, start, end, _, silent = self._lines[queue]
        numbers = range(self._passed[end] + 1, self._passed[start] + 1)
        sent = [number for number in numbers if sent_by(silent, number) > sent_by(silent, number - 1)]
        dropped = {pair[1]: True for pair in self._drops if pair[0] == queue}
        return [(number, "notice" if number in dropped else "item") for number in sent]

    def __len__(self):
        return len([message for queue in self._lines for message in self.messages(queue)])

    def __iadd__(self, worker):
        if worker not in self._passed:
            raise NoWorker(worker)
        if self._is_at_death(worker):
            raise Dead(worker)
        stop = stop_at(self._around, self._passed, worker)
        if stop is not None and stop[0] == "silent":
            raise Silent(stop[1])
        if stop is not None:
            raise Full(stop[1])
        self._past.append(self.counts())
        self._passed[worker] = self._passed[worker] + 1
        return self

    def _is_at_death(self, worker):
        return self._deaths.get(worker) == self._passed[worker]

    def __contains__(self, worker):
        if worker not in self._passed or self._is_at_death(worker):
            return False
        return stop_at(self._around, self._passed, worker) is None

    def ready(self):
        """The set of the workers that can advance."""
        return tuple([worker for worker in self._net[0] if worker in self])

    def settle(self, many):
        """Let workers that have passed fewer than many advance, until none of them can."""
        self._past.append(self.counts())
        go_on(self._around, self._passed, limits_to(many, self._deaths, self._net[0]))
        return self.counts()

    def back(self):
        """Undo the last advance or settle that is not undone yet."""
        if len(self._past) == 0:
            raise NothingDone()
        counts = self._past.pop()
        self._passed = {worker: counts[place] for place, worker in enumerate(self._net[0])}

    def twin(self):
        """A Run in the same state with the same history, that shares nothing with this one."""
        other = Run(self._net, self._drops, deaths=list(self._deaths.items()))
        other._passed = {worker: self._passed[worker] for worker in self._net[0]}
        other._past = list(self._past)
        return other

    def __eq__(self, other):
        if not isinstance(other, Run):
            return False
        return (self._net == other._net and self._drops == other._drops
                and self._deaths == other._deaths and self._passed == other._passed)


def held(net, drops, *, deaths=()):
    """ENDS: for each worker the number at which it is held; None if it is not held."""
    around = lines_at(net, lines_of(net, drops))
    dying = {worker: number for worker, number in deaths}
    counts = {worker: 0 for worker in net[0]}
    # Beyond the greatest dropped number there are only items. So who is below this
    # limit, when nobody can go on, waits for one who is below it too or dead.
    limit = max([1] + [number for _, number in drops]) + 1
    go_on(around, counts, limits_to(limit, dying, net[0]))
    ends = {worker: None for worker in net[0]}
    for group in groups(net):
        if any([worker in dying or counts[worker] < limit for worker in group]):
            go_on(around, counts, {worker: dying.get(worker) for worker in group})
            for worker in group:
                ends[worker] = counts[worker]
    return tuple([ends[worker] for worker in net[0]])


def closes(net, drops, ends):
    """Whether a queue stops each worker that has a number in the ENDS, all being there."""
    around = lines_at(net, lines_of(net, drops))
    counts = {worker: ends[place] for place, worker in enumerate(net[0])}
    return all([counts[worker] is None or stop_at(around, counts, worker) is not None
                for worker in net[0]])


def order_to(net, drops, counts):
    """A tuple of workers whose advances lead from the start to these COUNTS; None if none does."""
    passed = {worker: 0 for worker in net[0]}
    limits = {worker: counts[place] for place, worker in enumerate(net[0])}
    order = go_on(lines_at(net, lines_of(net, drops)), passed, limits)
    return tuple(order) if passed == limits else None


def stands(net, drops, counts):
    """Whether the workers have passed just these COUNTS at one moment of some run."""
    return order_to(net, drops, counts) is not None

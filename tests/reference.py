"""What a net does, written down as the document tells it, message by message."""


class Model:

    def __init__(self, net, drops, deaths=()):
        self.net = net
        self.drops = set(drops)
        self.deaths = dict(deaths)
        self.passed = {worker: 0 for worker in net[0]}
        self.holds = {queue[0]: [] for queue in net[1]}
        self.last = {queue[0]: 0 for queue in net[1]}

    def kind(self, queue, number):
        """What is sent on the queue at this number: "item", "notice" or None."""
        name, _, _, _, notice = queue
        if (name, number) not in self.drops:
            return "item"
        if self.last[name] <= number - notice:
            return "notice"
        return None

    def error(self, worker):
        """The name and the value of the error that an advance raises; None if it can be done."""
        number = self.passed[worker] + 1
        if self.deaths.get(worker) == self.passed[worker]:
            return ("Dead", worker)
        for queue in self.net[1]:
            if queue[2] == worker and not self.holds[queue[0]]:
                return ("Silent", queue[0])
        for queue in self.net[1]:
            if queue[1] == worker and self.kind(queue, number) and len(self.holds[queue[0]]) >= queue[3]:
                return ("Full", queue[0])
        return None

    def advance(self, worker):
        number = self.passed[worker] + 1
        for queue in self.net[1]:
            name = queue[0]
            if queue[2] == worker:
                self.holds[name] = [message for message in self.holds[name] if message[0] != number]
            kind = self.kind(queue, number) if queue[1] == worker else None
            if kind:
                self.holds[name].append((number, kind))
                self.last[name] = number
        self.passed[worker] = number

    def counts(self):
        return tuple(self.passed[worker] for worker in self.net[0])

    def copy(self):
        other = Model(self.net, self.drops, self.deaths)
        other.passed = dict(self.passed)
        other.holds = {name: list(held) for name, held in self.holds.items()}
        other.last = dict(self.last)
        return other


def reached(net, drops, deaths, limit):
    """All COUNTS of all runs in which nobody passes a number above the limit."""
    first = Model(net, drops, deaths)
    found = {first.counts()}
    waiting = [first]
    while waiting:
        model = waiting.pop()
        for worker in net[0]:
            if model.passed[worker] < limit and model.error(worker) is None:
                after = model.copy()
                after.advance(worker)
                if after.counts() not in found:
                    found.add(after.counts())
                    waiting.append(after)
    return found


def numbers_of(queue, drops, limit):
    """The numbers of the queue up to the limit."""
    model = Model(((queue[1], queue[2]), (queue,)), drops)
    numbers = []
    for number in range(1, limit + 1):
        if model.kind(queue, number):
            numbers.append(number)
            model.last[queue[0]] = number
    return numbers


def closed(net, drops, ends):
    """closes, as the document says it."""
    place = {worker: at for at, worker in enumerate(net[0])}
    limit = max([1] + [end for end in ends if end is not None]) + 1
    numbers = {queue[0]: numbers_of(queue, drops, limit) for queue in net[1]}

    def stopped_by(queue, worker, at):
        start, end = ends[place[queue[1]]], ends[place[queue[2]]]
        told = numbers[queue[0]]
        if queue[2] == worker and start is not None:
            return not [n for n in told if at + 1 <= n <= start]
        if queue[1] == worker and end is not None:
            return len([n for n in told if end + 1 <= n <= at + 1]) > queue[3]
        return False

    for worker, at in zip(net[0], ends):
        if at is not None and not any(stopped_by(queue, worker, at) for queue in net[1]):
            return False
    return True

"""A net that is changed while it stands."""

from joinlags.errors import BadName, BadQueue, NoPart, NoQueue, NoTable, NothingDone
from joinlags.judge import bad_ring, is_bad_ring, lags, never_held, shows_never
from joinlags.nets import check_worker
from joinlags.shapes import frozen
from joinlags.tables import net_with, part_of, table_of


def part_around(net, inner):
    """The PART of the workers inner, a dict by NAMEs, all queues at them, and its other workers as doors."""
    queues = [queue for queue in net[1] if queue[1] in inner or queue[2] in inner]
    ends = [end for queue in queues for end in queue[1:3]]
    doors = tuple(sorted(set([end for end in ends if end not in inner])))
    return net_with(list(inner) + list(doors), queues), doors


def named(part, doors, name):
    """The workers and the QUEUEs of a PART that come for these doors, with name and a point ahead of their NAMEs."""
    (workers, queues), places = part
    names = {worker: f"{name}.{worker}" for worker in workers}
    for place, door in zip(places, doors):
        names[place] = door
    fresh = [names[worker] for worker in workers if worker not in places]
    return fresh, [(f"{name}.{queue}", names[start], names[end], room, notice)
                   for queue, start, end, room, notice in queues]


class Yard:
    """A net at work. It keeps its reasons as long as they are right."""

    def __init__(self, net):
        self._net = frozen(net)
        self._past = []
        # What lags and ring told last; None is no such thing for any net.
        self._lags = None
        self._ring = None

    def _change(self, workers, queues):
        self._past.append(self._net)
        self._net = net_with(workers, queues)

    def _others(self, queue):
        return [old for old in self._net[1] if old[0] != queue]

    def __setitem__(self, queue, worth):
        start, end, room, notice = worth
        check_worker(self._net, start)
        check_worker(self._net, end)
        if start == end or room < 1 or notice < 1 or notice > room:
            raise BadQueue(queue)
        self._change(self._net[0], self._others(queue) + [(queue, start, end, room, notice)])

    def __getitem__(self, queue):
        for old in self._net[1]:
            if old[0] == queue:
                return old[1:]
        raise NoQueue(queue)

    def __iter__(self):
        raise TypeError("a Yard is not iterated over")

    def __contains__(self, queue):
        return any([old[0] == queue for old in self._net[1]])

    def __len__(self):
        return len(self._net[1])

    def net(self):
        """The NET."""
        return self._net

    def drop(self, queue):
        """Take the queue out."""
        if queue not in self:
            raise NoQueue(queue)
        self._change(self._net[0], self._others(queue))

    def hire(self, worker):
        """Add a worker without queues; whether there was none of this NAME."""
        if worker in self._net[0]:
            return False
        self._change(self._net[0] + (worker,), self._net[1])
        return True

    def never_held(self):
        """Whether nobody is ever held in the NET as it stands."""
        return never_held(self._net)

    def lags(self):
        """Lags of the NET, those told last if they still are such; None if somebody can be held."""
        if shows_never(self._net, self._lags):
            return self._lags
        found = lags(self._net)
        if found is not None:
            self._lags = found
        return found

    def ring(self):
        """A bad RING of the NET, the one told last if it still is one; None if nobody is ever held."""
        if is_bad_ring(self._net, self._ring):
            return self._ring
        found = bad_ring(self._net)
        if found is not None:
            self._ring = found
        return found

    def table(self, doors):
        """The Table of the PART of the NET with these doors; None if somebody can be held."""
        for door in doors:
            check_worker(self._net, door)
        return table_of((self._net, doors))

    def small(self, inner, name):
        """Exchange the workers inner, and all queues at them, for the smallest part that is like them."""
        for worker in inner:
            check_worker(self._net, worker)
        part = part_around(self._net, {worker: True for worker in inner})
        if len(part[1]) == 0:
            raise NoPart()
        table = table_of(part)
        if table is None:
            raise NoTable()
        fresh, queues = named(part_of(table), part[1], name)
        workers = [worker for worker in self._net[0] if worker not in inner]
        rest = [queue for queue in self._net[1] if queue not in part[0][1]]
        taken = [worker for worker in workers if worker in fresh]
        if len(taken) > 0 or len(set([queue[0] for queue in rest + queues])) < len(rest) + len(queues):
            raise BadName(name)
        self._change(workers + fresh, rest + queues)

    def back(self):
        """Undo the last change that is not undone yet."""
        if len(self._past) == 0:
            raise NothingDone()
        self._net = self._past.pop()

    def twin(self):
        """A Yard in the same state, with the same to undo, that shares nothing with this one."""
        other = Yard(self._net)
        other._past = list(self._past)
        other._lags = self._lags
        other._ring = self._ring
        return other

    def __eq__(self, other):
        return isinstance(other, Yard) and self._net == other._net

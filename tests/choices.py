"""What runs do over all drops: each item is dropped or not just when its number is passed."""

import heapq
import itertools

from reference import Model, reached


def all_drops(net, greatest):
    """All DROPS with numbers up to the greatest."""
    pairs = [(queue[0], number) for queue in net[1] for number in range(1, greatest + 1)]
    for many in range(len(pairs) + 1):
        yield from itertools.combinations(pairs, many)


def sendings(queue, held, last, number):
    """Triples (what the queue holds then, the last number sent, how many items are dropped)."""
    _, _, _, room, notice = queue
    if len(held) < room:
        yield held + (number,), number, 0
    if last > number - notice:
        yield held, last, 1
    elif len(held) < room:
        yield held + (number,), number, 1


def advances(net, state, worker):
    """All pairs (state, how many items are dropped) that one advance of the worker leads to.

    A state is a triple: the COUNTS, what each queue holds, the last number sent on each queue.
    """
    counts, holds, lasts = state
    place = net[0].index(worker)
    number = counts[place] + 1
    choices = []
    for queue, held, last in zip(net[1], holds, lasts):
        if queue[2] == worker:
            if not held:
                return
            choices.append([(tuple(message for message in held if message != number), last, 0)])
        elif queue[1] == worker:
            choices.append(list(sendings(queue, held, last, number)))
        else:
            choices.append([(held, last, 0)])
    after = counts[:place] + (number,) + counts[place + 1:]
    for row in itertools.product(*choices):
        yield (after, tuple(x[0] for x in row), tuple(x[1] for x in row)), sum(x[2] for x in row)


def explored(net, limit):
    """A dict from each state of a run, in which nobody passes a number above the limit, to the fewest drops."""
    first = (tuple(0 for _ in net[0]), tuple(() for _ in net[1]), tuple(0 for _ in net[1]))
    fewest = {first: 0}
    waiting = [(0, first)]
    while waiting:
        many, state = heapq.heappop(waiting)
        if many > fewest[state]:
            continue
        for worker, count in zip(net[0], state[0]):
            if count < limit:
                for after, dropped in advances(net, state, worker):
                    if many + dropped < fewest.get(after, many + dropped + 1):
                        fewest[after] = many + dropped
                        heapq.heappush(waiting, (many + dropped, after))
    return fewest


def fewest_of(pairs):
    """A dict from counts to the least number beside them."""
    found = {}
    for counts, many in pairs:
        found[counts] = min(many, found.get(counts, many))
    return found


def standing(net, limit):
    """A dict from all COUNTS up to the limit that can stand to the fewest DROPS that lead there."""
    return fewest_of((state[0], many) for state, many in explored(net, limit).items())


def most_held(net, limit):
    """The most messages that all queues hold at once while nobody is above the limit."""
    return max(sum(len(held) for held in state[1]) for state in explored(net, limit))


def is_stuck(net, state, many):
    """Whether nobody below many can go on if the items of the next numbers are not dropped."""
    counts, holds, _ = state
    stopped = set()
    for queue, held in zip(net[1], holds):
        if not held:
            stopped.add(queue[2])
        if len(held) == queue[3]:
            stopped.add(queue[1])
    return all(count >= many or worker in stopped for worker, count in zip(net[0], counts))


def left(net, many):
    """A dict from all COUNTS that can be left at many to the fewest DROPS that leave them."""
    return fewest_of((state[0], dropped) for state, dropped in explored(net, many).items()
                     if is_stuck(net, state, many))


def settled(net, drops, many):
    """The COUNTS that these DROPS leave at many, message by message."""
    model = Model(net, drops)
    able = True
    while able:
        able = [worker for worker in net[0] if model.passed[worker] < many and model.error(worker) is None]
        if able:
            model.advance(able[0])
    return model.counts()


def standing_by_drops(net, limit):
    """The same as standing, DROPS by DROPS."""
    return fewest_of((counts, len(drops)) for drops in all_drops(net, limit)
                     for counts in reached(net, drops, (), limit))


def left_by_drops(net, many):
    """The same as left, DROPS by DROPS."""
    return fewest_of((settled(net, drops, many), len(drops)) for drops in all_drops(net, many))


def boxes(net, limit):
    """All rows of numbers from 0 to the limit, one for each worker."""
    return itertools.product(range(limit + 1), repeat=len(net[0]))


def price_by_words(net, count, going):
    """How many DROPS keep those going from more than the numbers in the dict count, as the document adds them up.

    None if a lead cannot be or nothing stops one of them; who has the number None is left out.
    """
    total = 0
    lows, highs = {}, set()
    for _, start, end, room, notice in net[1]:
        if count[start] is None:
            continue
        lead = count[start] - count[end]
        if not 0 <= lead <= notice * (room + 1) - 1:
            return None
        total += max(0, lead - room)
        if lead <= notice - 1:
            lows.setdefault(end, []).append(lead)
        if lead >= room:
            highs.add(start)
    for worker in going:
        if worker not in highs:
            if worker not in lows:
                return None
            total += min(lows[worker])
    return total

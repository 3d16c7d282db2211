"""Nets that several tests use, and random ones; a seed makes these the same each time."""

import random

FORK = (("a", "d", "s"), (("p", "s", "a", 3, 3), ("q", "a", "d", 3, 3), ("r", "s", "d", 4, 1)))
CYCLE = (("i", "j", "s", "t"), (("a", "i", "j", 1, 1), ("b", "j", "i", 1, 1), ("c", "j", "t", 1, 1),
                                ("d", "s", "t", 1, 1)))
DOUBLE = (("a", "b"), (("p", "a", "b", 2, 2), ("q", "a", "b", 5, 1)))
TWO_GROUPS = (("a", "b", "c", "d", "e"), (("p", "c", "a", 1, 1), ("q", "b", "e", 2, 2)))
BARE = (("a", "b"), ())
HUGE = 10 ** 40
WIDE = (FORK[0], FORK[1][:2] + (("r", "s", "d", 5, 1),))
ALONE = (("z",), ())


def listed(thing):
    """The same with lists for tuples, at any depth."""
    if isinstance(thing, tuple):
        return [listed(part) for part in thing]
    return thing


def random_net(source, most_workers, most_queues, most_room):
    workers = tuple("abcdefgh"[:source.randint(2, most_workers)])
    queues = []
    for place in range(source.randint(0, most_queues)):
        start, end = source.sample(workers, 2)
        room = source.randint(1, most_room)
        queues.append((f"q{place}", start, end, room, source.randint(1, room)))
    return (workers, tuple(queues))


def small_nets(source, many, most_workers, most_queues, most_room):
    """Random nets, each as it comes and with all queues from lesser to greater workers, so without cycles."""
    found = []
    for _ in range(many):
        workers, queues = random_net(source, most_workers, most_queues, most_room)
        found.append((workers, queues))
        found.append((workers, tuple((queue[0], *sorted(queue[1:3]), *queue[3:]) for queue in queues)))
    return found


def many_workers(many):
    return tuple(f"w{place:02}" for place in range(many))


def wild_net(source, many, queues, most_room):
    """A net of so many workers and queues; nearly always somebody can be held in it."""
    workers = many_workers(many)
    rows = []
    for place in range(queues):
        room = source.randint(1, most_room)
        rows.append((f"q{place:02}",) + tuple(source.sample(workers, 2)) + (room, source.randint(1, room)))
    return (workers, tuple(rows))


def sloped_net(source, many, queues, most_room):
    """A net without directed cycles; notices are small against rooms, so in some nobody can be held."""
    workers, rows = wild_net(source, many, queues, most_room)
    rows = tuple((name, *sorted((start, end)), room, source.randint(1, max(1, room // 4)))
                 for name, start, end, room, _ in rows)
    return (workers, rows)


def calm_net(source, many, queues, most_lag):
    """A net in which nobody can be held, though rooms and notices are as near to it as the lags let them be."""
    workers = many_workers(many)
    lag = {worker: source.randrange(most_lag) * many + place for place, worker in enumerate(workers)}
    rows = []
    for place in range(queues):
        end, start = sorted(source.sample(workers, 2), key=lag.get)
        gap = lag[start] - lag[end]
        rows.append((f"q{place:02}", start, end, gap // many + 1, (gap - 1) // many + 1))
    return (workers, tuple(rows))


def step_cost(queue, side):
    return queue[3] if side == "along" else 1 - queue[4]


def random_drops(source, net, greatest):
    return tuple([(queue[0], number) for queue in net[1] for number in range(1, greatest + 1)
                  if source.random() < 0.6])


def random_deaths(source, net, greatest):
    return tuple([(worker, source.randint(0, greatest)) for worker in net[0] if source.random() < 0.2])


def random_cases(seed, many, with_deaths):
    """Triples (net, drops, deaths) of small nets."""
    source = random.Random(seed)
    found = []
    for _ in range(many):
        net = random_net(source, 4, 5, 3)
        deaths = random_deaths(source, net, 4) if with_deaths else ()
        found.append((net, random_drops(source, net, 4), deaths))
    return found


def random_block(source, word, ahead, most_room, tame):
    """The lines of a block; ahead is a dict from the WORDs of the blocks that it may use to their numbers of doors."""
    workers = list("abcdefg"[:source.randint(2, 7)])
    doors = source.sample(workers, source.choice([count for count in (1, 2, 2, 3, 4, 4, 6) if count <= len(workers)]))
    lines = [" ".join(["block", word] + doors)]
    for place in range(source.randint(0, 5)):
        start, end = source.sample(workers, 2)
        if tame:
            start, end = max(start, end), min(start, end)
        room = source.randint(1, most_room)
        lines.append(f"queue q{place} {start} {end} {room} {source.randint(1, max(1, room // (3 if tame else 1)))}")
    fitting = [other for other, many in ahead.items() if many <= len(workers)]
    for place in range(source.randint(0, 3) if fitting else 0):
        other = source.choice(fitting)
        lines.append(" ".join(["use", f"u{place}", other] + source.sample(workers, ahead[other])))
    return lines, len(doors)


def random_nest(source, most_blocks, most_room=5):
    """The text of a nest; in some of them all blocks have a Table."""
    lines, ahead = [], {}
    tame = source.random() < 0.8
    for place in range(source.randint(1, most_blocks)):
        more, ahead[f"b{place}"] = random_block(source, f"b{place}", ahead, most_room, tame)
        lines += more
    return "\n".join(lines)

"""Which notices and rooms of queues are good."""

from joinlags.errors import NoQueue
from joinlags.judge import least_cost, never_held


def find_queue(net, name):
    """The QUEUE of this NAME."""
    for queue in net[1]:
        if queue[0] == name:
            return queue
    raise NoQueue(name)


def changed(net, notices):
    """The NET in which each queue whose NAME is a key of the dict notices has the notice there."""
    queues = [(name, start, end, room, notices.get(name, notice)) for name, start, end, room, notice in net[1]]
    return tuple(net[0]), tuple(queues)


def raised(net, queue, room, notice):
    """The NET in which this queue has this room and this notice."""
    name, start, end, _, _ = find_queue(net, queue)
    after = (name, start, end, room, notice)
    return tuple(net[0]), tuple([after if old[0] == queue else tuple(old) for old in net[1]])


def limits(net, queue):
    """The pair (notice, room): the greatest notice and the least room with which nobody can be held.

    None if there are none with which nobody can be held.
    """
    _, start, end, _, _ = find_queue(net, queue)
    rest = (net[0], [old for old in net[1] if old[0] != queue])
    if not never_held(rest):
        return None
    notice = least_cost(rest, start, end)
    if notice is None:
        return None, 1
    if notice < 1:
        return None
    return notice, max(1, 1 - least_cost(rest, end, start))


def greatest_notice(net, queue):
    """The greatest notice of this queue with which nobody can be held; None if there is none."""
    room = find_queue(net, queue)[3]
    found = limits(net, queue)
    if found is None or found[1] > room:
        return None
    return room if found[0] is None else min(found[0], room)


def is_common(net, many):
    """Whether nobody can be held if each notice is the lesser of many and the room."""
    return never_held(changed(net, {queue[0]: min(many, queue[3]) for queue in net[1]}))


def greatest_common(net):
    """The greatest many such that nobody can be held with it as all notices, so far as rooms allow it.

    None if this is so for all numbers from 1; 0 if for none.
    """
    # Greater notices only make rings cheaper, and above the rooms nothing changes.
    high = max([queue[3] for queue in net[1]], default=1)
    if is_common(net, high):
        return None
    low = 0
    while high - low > 1:
        middle = (low + high) // 2
        if is_common(net, middle):
            low = middle
        else:
            high = middle
    return low


def full(net):
    """Whether nobody can be held, but somebody can as soon as any one notice is raised."""
    if not never_held(net):
        return False
    return all([notice == room or not never_held(raised(net, name, room, notice + 1))
                for name, _, _, room, notice in net[1]])


def filled(net, order):
    """The NET in which each notice, in this order, got the greatest; None if somebody can be held."""
    for name in order:
        find_queue(net, name)
    if not never_held(net):
        return None
    after = changed(net, {})
    for name in order:
        after = changed(after, {name: greatest_notice(after, name)})
    return after


def is_sure(net, names):
    """Whether nobody can be held if the queues of these NAMEs get the notice 1."""
    return never_held(changed(net, {name: 1 for name in names}))


def sure_sets(net):
    """The ascending list of the sets of queues that must get the notice 1, and no others, so that nobody is held."""
    rows = [()]
    for queue in net[1]:
        # A queue that has this notice already would be one too many in each set.
        if queue[4] > 1:
            rows = rows + [names + (queue[0],) for names in rows]
    sure = {names: True for names in rows if is_sure(net, names)}
    # A set that is enough stays so if it gets more queues, so it is looked at with one less.
    return sorted([names for names in sure
                   if all([names[:place] + names[place + 1:] not in sure for place in range(len(names))])])


def fewest_sure(net):
    """Of the sure_sets the one of the fewest queues, the least of several; None if there is none."""
    found = [(len(names), names) for names in sure_sets(net)]
    return min(found)[1] if len(found) > 0 else None

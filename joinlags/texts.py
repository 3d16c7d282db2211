"""Texts of nets, parts, drops, deaths, ends, steps and tables, written and read."""

from joinlags.errors import BadLine
from joinlags.nets import is_net
from joinlags.shapes import ascends, is_name, number_in
from joinlags.tables import is_table

MOST_DIGITS = 60
DROP_DIGITS = 3
SIDES = {"+": "along", "-": "against"}


def net_lines(net):
    """The lines of a NET."""
    lines = [" ".join(net[0])]
    lines.extend([f"{name}: {start} > {end} {room} {notice}" for name, start, end, room, notice in net[1]])
    return lines


def net_text(net):
    """The text of a NET."""
    return "\n".join(net_lines(net))


def part_text(part):
    """The text of a PART."""
    net, doors = part
    return "\n".join([" ".join(["doors:"] + list(doors))] + net_lines(net))


def ranges_of(numbers):
    """The pairs (first, last) of neighbouring numbers, as many together as there are, of ascending ones."""
    found = []
    for number in numbers:
        if len(found) > 0 and found[-1][1] == number - 1:
            found[-1] = (found[-1][0], number)
        else:
            found.append((number, number))
    return found


def range_text(pair):
    """A pair of ranges_of as it is written."""
    first, last = pair
    return f"{first}" if first == last else f"{first}..{last}"


def drops_text(drops):
    """The text of DROPS."""
    numbers = {}
    for queue, number in drops:
        numbers.setdefault(queue, []).append(number)
    return "\n".join([" ".join([f"{queue}:"] + [range_text(pair) for pair in ranges_of(numbers[queue])])
                      for queue in numbers])


def deaths_text(deaths):
    """The text of DEATHS."""
    return "\n".join([f"{worker}: {number}" for worker, number in deaths])


def number_text(number, empty):
    """The number as it is written, the sign empty for None."""
    return empty if number is None else f"{number}"


def ends_text(net, ends):
    """The text of ENDS of the net."""
    return "\n".join([worker + ": " + number_text(ends[place], "-") for place, worker in enumerate(net[0])])


def steps_text(steps):
    """The text of a row of steps."""
    return " ".join([("+" if side == "along" else "-") + queue for queue, side in steps])


def rows_text(rows):
    """The text of a TABLE."""
    return "\n".join([" ".join([number_text(entry, ".") for entry in row]) for row in rows])


def short_number(word, most, least):
    """The number of at most so many digits, and not below the least, that the word is; None if it is none."""
    number = number_in(word) if len(word) <= most else None
    return None if number is None or number < least else number


def entry_in(word):
    """A tuple of the entry that the word is; () if it is none."""
    if word == ".":
        return (None,)
    below = word[:1] == "-"
    number = short_number(word[1:] if below else word, MOST_DIGITS, 1 if below else 0)
    if number is None:
        return ()
    return (-number,) if below else (number,)


def name_ahead(word):
    """What stands ahead of the colon at the end of the word; None if there is no colon."""
    return word[:-1] if word[-1:] == ":" else None


def workers_in(line):
    """The workers that the line names; None if it is no such line."""
    words = tuple(line.split(" "))
    return words if all([is_name(word) for word in words]) and ascends(words) else None


def queue_in(workers, line):
    """The QUEUE between these workers that the line writes; None if it is no such line."""
    words = line.split(" ")
    if len(words) != 6 or words[2] != ">":
        return None
    name = name_ahead(words[0])
    room = short_number(words[4], MOST_DIGITS, 1)
    notice = short_number(words[5], MOST_DIGITS, 1)
    queue = (name, words[1], words[3], room, notice)
    # One queue by itself makes a NET with the workers just if it is written as it should be.
    return queue if is_net((workers, (queue,))) else None


def net_of(lines, first):
    """The NET that these lines write, the first of them being of this number."""
    workers = workers_in(lines[0])
    if workers is None:
        raise BadLine(first)
    queues = []
    for place, line in enumerate(lines[1:]):
        queue = queue_in(workers, line)
        if queue is None or len(queues) > 0 and queue[0] <= queues[-1][0]:
            raise BadLine(first + 1 + place)
        queues.append(queue)
    return workers, tuple(queues)


def net_in(text):
    """The NET that has this text."""
    return net_of(text.split("\n"), 0)


def part_in(text):
    """The PART that has this text."""
    lines = text.split("\n")
    words = lines[0].split(" ")
    doors = tuple(words[1:])
    if words[0] != "doors:" or len(doors) == 0 or not all([is_name(door) for door in doors]):
        raise BadLine(0)
    if len(set(doors)) < len(doors):
        raise BadLine(0)
    if len(lines) == 1:
        raise BadLine(1)
    net = net_of(lines[1:], 1)
    if not all([door in net[0] for door in doors]):
        raise BadLine(len(lines))
    return net, doors


def range_in(word):
    """The pair (first, last) of a word such as range_text writes; None if it is none."""
    first, points, last = word.partition("..")
    low = short_number(first, DROP_DIGITS, 1)
    high = short_number(last, DROP_DIGITS, 1) if points != "" else low
    if low is None or high is None or points != "" and high <= low:
        return None
    return low, high


def numbers_in(words):
    """The ascending numbers that the words write; None if they are not so written, or there are none."""
    pairs = [range_in(word) for word in words]
    if len(pairs) == 0 or None in pairs:
        return None
    numbers = [number for low, high in pairs for number in range(low, high + 1)]
    return numbers if ascends(numbers) and ranges_of(numbers) == pairs else None


def named_lines(names, text):
    """For each line of the text the pair (NAME, the words behind its colon); a text without signs has none.

    The NAMEs are among the names, and ascend. Where a line is not so, there is None in its place.
    """
    lines = text.split("\n") if text != "" else []
    found = []
    last = ""
    for line in lines:
        words = line.split(" ")
        name = name_ahead(words[0])
        if name not in names or name <= last:
            found.append(None)
        else:
            found.append((name, words[1:]))
            last = name
    return found


def drops_in(net, text):
    """The DROPS of the net that have this text."""
    drops = []
    for place, row in enumerate(named_lines([queue[0] for queue in net[1]], text)):
        numbers = None if row is None else numbers_in(row[1])
        if numbers is None:
            raise BadLine(place)
        drops.extend([(row[0], number) for number in numbers])
    return tuple(drops)


def deaths_in(net, text):
    """The DEATHS of the net that have this text."""
    deaths = []
    for place, row in enumerate(named_lines(net[0], text)):
        number = short_number(row[1][0], MOST_DIGITS, 0) if row is not None and len(row[1]) == 1 else None
        if number is None:
            raise BadLine(place)
        deaths.append((row[0], number))
    return tuple(deaths)


def ends_in(net, text):
    """The ENDS of the net that have this text."""
    ends = []
    lines = text.split("\n")
    for place, line in enumerate(lines):
        words = line.split(" ")
        number = short_number(words[1], MOST_DIGITS, 0) if len(words) == 2 else None
        if place >= len(net[0]) or words[0] != net[0][place] + ":" or number is None and words[1:] != ["-"]:
            raise BadLine(place)
        ends.append(number)
    if len(ends) < len(net[0]):
        raise BadLine(len(lines))
    return tuple(ends)


def step_in(known, word):
    """The step over a queue whose NAME is among those known that the word writes; None if it is none."""
    if word[:1] not in SIDES or word[1:] not in known:
        return None
    return word[1:], SIDES[word[:1]]


def steps_in(net, text):
    """The row of steps over queues of the net that has this text."""
    lines = text.split("\n")
    known = [queue[0] for queue in net[1]]
    steps = [step_in(known, word) for word in lines[0].split(" ")] if lines[0] != "" else []
    if None in steps:
        raise BadLine(0)
    if len(lines) > 1:
        raise BadLine(1)
    return tuple(steps)


def rows_in(text):
    """The TABLE that has this text."""
    lines = text.split("\n")
    rows = []
    for place, line in enumerate(lines):
        entries = [entry_in(word) for word in line.split(" ")]
        if () in entries or len(rows) > 0 and len(entries) != len(rows[0]):
            raise BadLine(place)
        rows.append(tuple([entry[0] for entry in entries]))
    if not is_table(tuple(rows)):
        raise BadLine(len(lines))
    return tuple(rows)

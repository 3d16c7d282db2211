"""Nests of blocks, each made of queues and of copies of blocks ahead: judged without being unfolded."""

from joinlags.chains import chain_rows, longest_rows
from joinlags.errors import BadLine, BadQueue, NoBlock, NoFit, NoQueue, NoStep, NoWorker
from joinlags.nets import arcs_to, least_sums, shortest_ring
from joinlags.shapes import are_words, is_word, number_in
from joinlags.tables import arcs_among, as_table, check_door, check_lengths, closed, net_with, picked, renamed


class Block:
    """A block of a nest: what its lines write, and what was worked out of it."""

    def __init__(self, word, doors):
        self.word = word
        self.doors = tuple(doors)
        # The own workers are keys, the doors ahead of all others.
        self.members = {door: True for door in doors}
        # By the WORD of a queue (start, end, room, notice), of a use (block, workers),
        # of both the number of the line.
        self.links = {}
        self.uses = {}
        self.places = {}
        # How many workers and queues the NET has.
        self.extent = (0, 0)
        # The rows of the Table; None if there is none.
        self.entries = None
        # By (i, j) the pair of the direct cost and the steps of a way that has it, and
        # the triple (steps, rooms, silences) of this way written out.
        self.ways = {}
        self.sums = {}


def block_in(blocks, words):
    """The Block that begins with a line of these words; None if none does."""
    if words[0] != "block" or len(words) < 3 or not is_word(words[1]) or words[1] in blocks:
        return None
    return Block(words[1], words[2:]) if are_words(words[2:]) else None


def link_in(words):
    """The (start, end, room, notice) of a queue that a line of these words writes; None if none."""
    if words[0] != "queue" or len(words) != 6 or not are_words(words[2:4]):
        return None
    room = number_in(words[4])
    notice = number_in(words[5])
    if room is None or notice is None or notice < 1 or notice > room:
        return None
    return words[2], words[3], room, notice


def use_in(blocks, block, words):
    """The (block, workers) of a use in the block that a line of these words writes; None if none."""
    if words[0] != "use" or len(words) < 4 or words[2] not in blocks or words[2] == block.word:
        return None
    if not are_words(words[3:]) or len(words) - 3 != len(blocks[words[2]].doors):
        return None
    return words[2], tuple(words[3:])


def put_in(blocks, block, words, place):
    """Put the line of these words at this place in the block; whether it can stand there."""
    link = link_in(words)
    used = use_in(blocks, block, words)
    if link is None and used is None or not is_word(words[1]) or words[1] in block.places:
        return False
    block.places[words[1]] = place
    if used is None:
        block.links[words[1]] = link
    else:
        block.uses[words[1]] = used
    for worker in link[:2] if used is None else used[1]:
        block.members[worker] = True
    return True


def read_blocks(text):
    """The Blocks that the text writes, by their WORDs, in order."""
    blocks = {}
    last = None
    for place, line in enumerate(text.split("\n")):
        words = line.split(" ")
        begun = block_in(blocks, words)
        if begun is not None:
            last = begun
            blocks[begun.word] = begun
        elif last is None or not put_in(blocks, last, words, place):
            raise BadLine(place)
    return blocks


def steps_of(blocks, block):
    """An arc (from, to, cost, step) for each step in the block; the blocks that it uses have Tables."""
    arcs = []
    for word, (start, end, room, notice) in block.links.items():
        arcs.append((start, end, room, ("queue", word, "along")))
        arcs.append((end, start, 1 - notice, ("queue", word, "against")))
    for word, (used, workers) in block.uses.items():
        for (i, j), (cost, _) in blocks[used].ways.items():
            arcs.append((workers[i], workers[j], cost, ("use", word, i, j)))
    return arcs


def door_rows(block, arcs, least):
    """The rows that closed tells of the doors of the block, of arcs between its own workers."""
    place = {worker: number for number, worker in enumerate(block.members)}
    rows = closed(len(place), [(place[arc[0]], place[arc[1]], arc[2]) for arc in arcs], least)
    return None if rows is None else picked(rows, list(range(len(block.doors))))


def direct_ways(block, arcs):
    """By (i, j) the direct cost of these doors and the steps of a way that has it."""
    found = {}
    for i, door in enumerate(block.doors):
        # Between its ends the way meets no door, so it does not go on from another one.
        inner = [arc for arc in arcs if arc[0] == door or arc[0] not in block.doors]
        sums, last, _ = least_sums(inner, {door: 0})
        for j, other in enumerate(block.doors):
            if i != j and other in sums:
                found[i, j] = (sums[other], tuple([arc[3] for arc in arcs_to(last, other)]))
    return found


def step_sums(blocks, block, step):
    """The triple (steps, rooms, silences) of a step in the block, written out."""
    if step[0] == "use":
        used, _ = block.uses[step[1]]
        return blocks[used].sums[step[2], step[3]]
    _, _, room, notice = block.links[step[1]]
    return (1, room, 0) if step[2] == "along" else (1, 0, notice - 1)


def written_sums(blocks, block, steps):
    """The triple (steps, rooms, silences) of a row of steps in the block, written out."""
    rows = [step_sums(blocks, block, step) for step in steps]
    return tuple([sum([row[place] for row in rows]) for place in range(3)])


def judge_block(blocks, block):
    """Work out of a block, those ahead being done, what does not stand in its lines."""
    used = [blocks[name] for name, _ in block.uses.values()]
    block.extent = (len(block.members) + sum([other.extent[0] - len(other.doors) for other in used]),
                    len(block.links) + sum([other.extent[1] for other in used]))
    if any([other.entries is None for other in used]):
        return
    arcs = steps_of(blocks, block)
    block.entries = door_rows(block, arcs, 1)
    if block.entries is not None:
        block.ways = direct_ways(block, arcs)
        block.sums = {pair: written_sums(blocks, block, way[1]) for pair, way in block.ways.items()}


def unfold(blocks, block):
    """The PART of the block."""
    workers = list(block.members)
    queues = [(word,) + link for word, link in block.links.items()]
    for word, (used, ends) in block.uses.items():
        net, doors = unfold(blocks, blocks[used])
        names = {worker: f"{word}.{worker}" for worker in net[0]}
        for door, end in zip(doors, ends):
            names[door] = end
        workers.extend(list(names.values()))
        queues.extend(renamed(net, names, word + "."))
    return net_with(workers, queues), block.doors


def trail(blocks, block, words):
    """The Blocks that the WORDs of uses lead into, one within the other, the block itself ahead; or None."""
    found = [block]
    for word in words:
        if word not in found[-1].uses:
            return None
        found.append(blocks[found[-1].uses[word][0]])
    return found


def outer_name(inside, words, worker):
    """The NAME that an own worker of the last of the Blocks of a trail has in the first one."""
    depth = len(words)
    while depth > 0 and worker in inside[depth].doors:
        ends = inside[depth - 1].uses[words[depth - 1]][1]
        worker = ends[inside[depth].doors.index(worker)]
        depth = depth - 1
    return ".".join(words[:depth] + [worker])


# For lags each cost is split into as many parts as there are workers, and 1 is taken off. Then
# the sums of a block begin from those of its doors, which the block around has set.


def parted_arcs(block, parts, rows):
    """An arc (from, to, weight) for each step in the block; rows tells those of the used blocks."""
    arcs = []
    for start, end, room, notice in block.links.values():
        arcs.append((start, end, parts * room - 1))
        arcs.append((end, start, parts * (1 - notice) - 1))
    for used, workers in block.uses.values():
        arcs.extend(arcs_among(rows[used], workers))
    return arcs


def parted_rows(blocks, block, parts):
    """A dict from each block that this one is made of to the rows of weights between its doors."""
    within = {block.word: True}
    for word in list(blocks)[::-1]:
        if word in within:
            for used, _ in blocks[word].uses.values():
                within[used] = True
    rows = {}
    for word in blocks:
        if word in within:
            # A ring through all workers may come to just 0 here.
            rows[word] = door_rows(blocks[word], parted_arcs(blocks[word], parts, rows), 0)
    return rows


def member_sums(block, arcs, first):
    """A dict from each own worker to a sum that no arc makes less; first tells those of the doors."""
    sums, _, _ = least_sums(arcs, first)
    # No arc leads from those to these.
    rest, _, _ = least_sums(arcs, {worker: 0 for worker in block.members if worker not in sums})
    return {**sums, **rest}


def lag_at(blocks, inside, words):
    """The lag of the worker that these WORDs lead to, the last one in the last Block of the trail inside."""
    parts = inside[0].extent[0]
    rows = parted_rows(blocks, inside[0], parts)
    sums = member_sums(inside[0], parted_arcs(inside[0], parts, rows), {})
    for depth in range(1, len(inside)):
        block = inside[depth]
        ends = inside[depth - 1].uses[words[depth - 1]][1]
        first = {door: sums[end] for door, end in zip(block.doors, ends)}
        sums = member_sums(block, parted_arcs(block, parts, rows), first)
    return -sums[words[-1]]


class Nest:
    """A nest of blocks. It does not change."""

    def __init__(self, text):
        self._text = text
        self._blocks = read_blocks(text)
        for block in self._blocks.values():
            judge_block(self._blocks, block)
        wrong = [block for block in self._blocks.values() if block.entries is None]
        self._held = wrong[0] if len(wrong) > 0 else None
        self._ring = None
        if self._held is not None:
            ring = shortest_ring(self._held.members, steps_of(self._blocks, self._held))
            self._ring = tuple([arc[3] for arc in ring])

    def text(self):
        """The text."""
        return self._text

    def blocks(self):
        """The tuple of the WORDs of the blocks, in order."""
        return tuple(self._blocks)

    def __len__(self):
        return len(self._blocks)

    def __contains__(self, block):
        return block in self._blocks

    def __eq__(self, other):
        return isinstance(other, Nest) and self._text == other._text

    def _at(self, block):
        if block not in self._blocks:
            raise NoBlock(block)
        return self._blocks[block]

    def unfolded(self, block):
        """The PART of the block."""
        return unfold(self._blocks, self._at(block))

    def size(self, block):
        """The pair (workers, queues): how many the NET of the block has."""
        return self._at(block).extent

    def table(self, block):
        """The Table of the block; None if somebody can be held in its NET."""
        return as_table(self._at(block).entries)

    def _entries(self, block):
        found = self._at(block)
        if len(found.doors) % 2 == 1:
            raise NoFit()
        return found.entries

    def row(self, block, many):
        """The Table of many copies in line, the second half of the doors being the far ones; or None."""
        rows = self._entries(block)
        return None if rows is None else as_table(chain_rows(rows, many))

    def longest(self, block):
        """The greatest number of copies in line in which nobody is ever held; None if there is none."""
        return longest_rows(self._entries(block))

    def first_held(self):
        """The first block that has no Table; None if all have one."""
        return None if self._held is None else self._held.word

    def held_ring(self):
        """The fewest steps in first_held() that lead back to where they begin at a cost of 0 or less; or None."""
        return self._ring

    def way_in(self, block, i, j):
        """The steps of a way from door i to door j at their direct cost; None if there is none."""
        found = self._at(block)
        check_door((i, j), len(found.doors))
        if found.entries is None:
            return None
        if i == j:
            return ()
        return found.ways[i, j][1] if (i, j) in found.ways else None

    def ring_sums(self):
        """The triple (steps, rooms, silences) of the ring written out; None if there is no ring."""
        return None if self._held is None else written_sums(self._blocks, self._held, self._ring)

    def ring_queue(self, place):
        """The step of the ring written out at this place, a pair (queue, "along") or (queue, "against")."""
        if self._held is None or place < 0 or place >= self.ring_sums()[0]:
            raise NoStep(place)
        words, side = step_at(self._blocks, self._held, self._ring, place)
        return ".".join(words), side

    def queue_at(self, block, path):
        """The tuple (start, end, room, notice) of this queue of the NET of the block."""
        words = path.split(".")
        inside = trail(self._blocks, self._at(block), words[:-1])
        if inside is None or words[-1] not in inside[-1].links:
            raise NoQueue(path)
        start, end, room, notice = inside[-1].links[words[-1]]
        return outer_name(inside, words[:-1], start), outer_name(inside, words[:-1], end), room, notice

    def lag(self, block, path):
        """A number for this worker of the NET of the block, such as lags tells; None if there are none."""
        words = path.split(".")
        inside = trail(self._blocks, self._at(block), words[:-1])
        if inside is None or words[-1] not in inside[-1].members:
            raise NoWorker(path)
        # A door of a used block has its NAME from the block around.
        if len(words) > 1 and words[-1] in inside[-1].doors:
            raise NoWorker(path)
        return None if inside[0].entries is None else lag_at(self._blocks, inside, words)

    def changed(self, block, queue, room, notice):
        """The Nest in which this queue of the block has this room and notice."""
        found = self._at(block)
        if queue not in found.links:
            raise NoQueue(queue)
        if room < 1 or notice < 1 or notice > room:
            raise BadQueue(queue)
        start, end, _, _ = found.links[queue]
        return Nest(text_with(self._text, {found.places[queue]: f"queue {queue} {start} {end} {room} {notice}"}))

    def swapped(self, block, other):
        """The Nest in which all uses of block, behind both of them, are uses of other."""
        check_lengths(self._at(block).doors, self._at(other).doors)
        order = list(self._blocks)
        lines = {}
        for word in order[max(order.index(block), order.index(other)) + 1:]:
            behind = self._blocks[word]
            for name, (used, workers) in behind.uses.items():
                if used == block:
                    lines[behind.places[name]] = " ".join(["use", name, other] + list(workers))
        return Nest(text_with(self._text, lines))


def step_at(blocks, block, steps, place):
    """The pair (WORDs, side) of the step at this place of a row of steps in the block, written out."""
    words = []
    while True:
        ahead = 0
        while place >= step_sums(blocks, block, steps[ahead])[0]:
            place = place - step_sums(blocks, block, steps[ahead])[0]
            ahead = ahead + 1
        step = steps[ahead]
        words.append(step[1])
        if step[0] == "queue":
            return words, step[2]
        block = blocks[block.uses[step[1]][0]]
        steps = block.ways[step[2], step[3]][1]


def text_with(text, lines):
    """The text in which the lines whose numbers are keys of the dict lines stand as there."""
    return "\n".join([lines.get(place, line) for place, line in enumerate(text.split("\n"))])

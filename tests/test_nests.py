"""Nests of blocks, held against what is laid out of them."""

import itertools
import random
import unittest

from joinlags.chains import chain_table, is_link, longest
from joinlags.errors import BadLine, BadQueue, NoBlock, NoDoor, NoFit, NoQueue, NoStep, NoWorker
from joinlags.judge import is_bad_ring, never_held, shows_never
from joinlags.nests import Nest
from joinlags.nets import slack
from joinlags.tables import Table, is_part, is_table, table_of
from checks import check_error
from ring_sums import cost_of
from samples import HUGE, random_nest

STEP = "block step a c b d\nqueue p b a 3 3\nqueue q d c 1 1\nqueue r a c 3 1"
TWO = STEP + "\nblock two a c b d\nuse x step a c m n\nuse y step m n b d"
FOUR = TWO + "\nblock four a c b d\nuse x two a c m n\nuse y two m n b d"
PLAIN = "block plain a b\nqueue p a b 4 2"


def doubled(lines, levels, word="step"):
    """The lines, and blocks of two copies each of the one ahead."""
    for level in range(levels):
        lines += f"\nblock l{level} a c b d\nuse x {word} a c m n\nuse y {word} m n b d"
        word = f"l{level}"
    return lines


def least_inner_cost(part, i, j):
    """The least cost of a way from door i to door j that meets no other door in between; None if there is none."""
    net, doors = part
    sums = {doors[i]: 0}
    for _ in net[0]:
        for _, start, end, room, notice in net[1]:
            for worker, other, cost in ((start, end, room), (end, start, 1 - notice)):
                if worker in sums and (worker == doors[i] or worker not in doors):
                    sums[other] = min(sums[worker] + cost, sums.get(other, sums[worker] + cost))
    return sums.get(doors[j])


class Lines:
    """The lines of one block, as the test reads them."""

    def __init__(self, text, word):
        self.links, self.uses = {}, {}
        inside = False
        for line in text.split("\n"):
            kind, name, *rest = line.split(" ")
            if kind == "block":
                inside = name == word
                self.doors = rest if inside else getattr(self, "doors", None)
            elif inside and kind == "queue":
                self.links[name] = (rest[0], rest[1], int(rest[2]), int(rest[3]))
            elif inside:
                self.uses[name] = (rest[0], rest[1:])

    def ends(self, step):
        """Where a step begins and where it leads."""
        if step[0] == "use":
            return self.uses[step[1]][1][step[2]], self.uses[step[1]][1][step[3]]
        start, end = self.links[step[1]][:2]
        return (start, end) if step[2] == "along" else (end, start)

    def cost(self, nest, step):
        if step[0] == "use":
            return least_inner_cost(nest.unfolded(self.uses[step[1]][0]), step[2], step[3])
        return self.links[step[1]][2] if step[2] == "along" else 1 - self.links[step[1]][3]

    def steps(self, nest):
        found = [("queue", word, side) for word in self.links for side in ("along", "against")]
        for word, (used, workers) in self.uses.items():
            found += [("use", word, i, j) for i, j in itertools.permutations(range(len(workers)), 2)]
        return [step for step in found if self.cost(nest, step) is not None]


class ParseTest(unittest.TestCase):

    def check_bad(self, number, *texts):
        for text in texts:
            check_error(self, BadLine, {"number": number}, lambda: Nest(text))

    def check_line(self, good, *lines):
        """The lines stand, or cannot stand, behind a block of the doors a and b."""
        for line in lines:
            for behind in ("", "\n" + PLAIN):
                if good:
                    self.assertEqual(Nest(f"block w a b\n{line}{behind}").text(), f"block w a b\n{line}{behind}")
                else:
                    self.check_bad(1, f"block w a b\n{line}{behind}")

    def test_block_lines(self):
        for line in ("block a a", "block block block", "block queue use block", "block x0 y1 z", "block long" + "x" * 290 + " d"):
            self.assertEqual(Nest(line).blocks(), (line.split(" ")[1],))
        self.check_bad(0, "", "block", "block ", "block a", "block a ", " block a b", "block  a b", "block a  b",
                       "block a b ", "Block a b", "blocks a b", "block A b", "block a B", "block 0 b", "block a 0",
                       "block a.b c", "block a b.c", "block a b b", "block a b c b", "block a \u00e4", "block a b\tc",
                       "block a b\r", "block\ta b", "block a_ b", "block a b-c", "block a b,c", "\nblock a b", "block , a")
        self.check_bad(0, "queue p a b 1 1", "use x y a", "queue p a b 1 1\nblock a b", "x", " ", "block")
        self.check_bad(1, "block a b\n", "block a b\nblock a b", "block a b\nblock a c d", "block a b\n\nblock c d",
                       "block a b\n block c d", "block a b\nblock c", "block a b\nblock c d d", "block a b\n\n")
        self.check_bad(2, "block a b\nblock c b\nblock a x", PLAIN + "\nblock plain c")

    def test_queue_lines(self):
        self.check_line(True, "queue p a b 1 1", "queue p b a 10 10", "queue p x y 9 1", "queue a a b 1 1",
                        "queue w a b 7 3", "queue queue use block 2 1", f"queue p a b {HUGE} {HUGE}",
                        "queue p a b " + "9" * 100 + " " + "9" * 100, "queue p a b " + "1" + "0" * 5000 + " 1")
        self.check_line(False, "queue p a b 1", "queue p a b 1 1 1", "queue p a b 0 0", "queue p a b 1 0",
                        "queue p a b 1 2", "queue p a b 01 1", "queue p a b 1 01", "queue p a b -1 1",
                        "queue p a b +1 1", "queue p a b 1 1 ", "queue p a b 1  1", " queue p a b 1 1",
                        "queue p a a 1 1", "queue p a b.c 1 1", "queue p.q a b 1 1", "queue P a b 1 1",
                        "queue p A b 1 1", "queue p a B 1 1", "queue p a b 1_0 1", "queue p a b 1.0 1",
                        "queue p a b x 1", "queue p a b 1 x", "queue p a b \u0661 1", "queue p a b \u00b2 1",
                        "queue p a b  1", "queue  a b 1 1", "queue p a 1 1", "queue", "queue p", "Queue p a b 1 1",
                        "queue p a b 1\t1", "queue p 1 b 1 1", "queue p a b 00 0", "queue p a b None 1",
                        "queue p: a > b 1 1")

    def test_use_lines(self):
        inside = "block u x y z\nqueue p x y 2 1\nblock v x\n"
        for line, good in (("use x u a b c", True), ("use x u z y x", True), ("use u u a b c", True), ("use x v a", True),
                           ("use x v q", True), ("use x u a b", False), ("use x u a b c d", False), ("use x u a b a", False),
                           ("use x w a b", False), ("use x none a", False), ("use x v", False), ("use x v a b", False),
                           ("use x", False), ("use", False), ("use x v A", False), ("use x v a.b", False),
                           ("use x.y v a", False), ("use X v a", False), ("use x v  a", False), ("use x v a ", False),
                           ("use  v a", False), ("Use x v a", False), ("uses x v a", False), ("use 1 v a", False),
                           ("use x V a", False), ("use x v 0", False), ("use x u a b ", False), ("use x v a\t", False)):
            text = inside + "block w a b\n" + line
            if good:
                self.assertEqual(len(Nest(text)), 3)
            else:
                self.check_bad(4, text, text + "\nqueue")
        self.check_bad(1, "block one a\nuse x one a", "block one a b\nuse x two a b\nblock two a b")

    def test_words_of_queues_and_uses_are_different(self):
        self.check_bad(2, "block w a b\nqueue p a b 1 1\nqueue p a b 2 1", "block w a b\nqueue p a b 1 1\nqueue p b a 1 1")
        lines = PLAIN + "\nblock w a b\n"
        self.check_bad(4, lines + "use p plain a b\nqueue p a b 1 1", lines + "queue p a b 1 1\nuse p plain a b",
                       lines + "use p plain a b\nuse p plain b a")
        # In other blocks, and of workers and blocks, they may be the same.
        same = Nest(PLAIN + "\nblock p p a\nqueue p p a 4 2\nuse a plain p a")
        self.assertEqual(same.unfolded("p"), ((("a", "p"), (("a.p", "p", "a", 4, 2), ("p", "p", "a", 4, 2))), ("p", "a")))

    def test_the_first_wrong_line_is_told(self):
        lines = FOUR.split("\n")
        for place in range(len(lines)):
            for wrong in ("", "queue", lines[place] + " ", lines[place].upper(), "x" + lines[place]):
                text = "\n".join(lines[:place] + [wrong] + lines[place + 1:])
                self.check_bad(place, text, text + "\n", text + "\nblock step a")
        self.check_bad(len(lines), FOUR + "\n", FOUR + "\nblock four a c b d", FOUR + "\nqueue x a b 1 1")

    def test_text_and_blocks(self):
        nest = Nest(FOUR)
        self.assertEqual((nest.text(), nest.blocks(), len(nest)), (FOUR, ("step", "two", "four"), 3))
        for block, there in (("two", True), ("step", True), ("x", False), ("", False), ("a", False), ("two ", False)):
            self.assertIs(block in nest, there)
        self.assertEqual(Nest(text=FOUR), nest)
        self.assertFalse(Nest(FOUR) != nest)
        for other in (Nest(TWO), FOUR, None, 3):
            self.assertNotEqual(nest, other)
            self.assertNotEqual(other, nest)
        # The same blocks in other lines are another text.
        self.assertNotEqual(Nest("block a a b\nqueue p a b 1 1\nqueue q a b 1 1"),
                            Nest("block a a b\nqueue q a b 1 1\nqueue p a b 1 1"))

    def test_no_block_ahead_of_all_else(self):
        nest = Nest(FOUR + "\nblock odd a b c")
        for block in ("x", "", "Two", "a", "step.x", "two "):
            for act in (lambda: nest.unfolded(block), lambda: nest.size(block), lambda: nest.table(block),
                        lambda: nest.row(block, 1), lambda: nest.longest(block), lambda: nest.way_in(block, 99, -1),
                        lambda: nest.queue_at(block, "no"), lambda: nest.lag(block, "no"),
                        lambda: nest.changed(block, "no", 0, 0), lambda: nest.swapped(block, "no"),
                        lambda: nest.swapped(block, "odd"), lambda: nest.swapped("two", block),
                        lambda: nest.swapped("odd", block)):
                check_error(self, NoBlock, {"block": block}, act)


class LaidOutTest(unittest.TestCase):
    """A nest and its blocks laid out by unfolded."""

    def check_ways(self, nest, block, part):
        lines = Lines(nest.text(), block)
        table = nest.table(block)
        for i, j in itertools.product(range(len(part[1])), repeat=2):
            steps = nest.way_in(block, i, j)
            direct = None if table is None else least_inner_cost(part, i, j)
            if i == j or direct is None:
                self.assertEqual(steps, () if i == j and table is not None else None)
                continue
            place = part[1][i]
            for step in steps:
                self.assertEqual(lines.ends(step)[0], place)
                self.assertTrue(place == part[1][i] or place not in part[1])
                place = lines.ends(step)[1]
            self.assertEqual(place, part[1][j])
            self.assertEqual(sum(lines.cost(nest, step) for step in steps), direct, (nest.text(), block, i, j))
            self.assertIs(type(steps), tuple)

    def check_names(self, nest, block, part):
        net = part[0]
        for name, start, end, room, notice in net[1]:
            self.assertEqual(nest.queue_at(block, name), (start, end, room, notice))
        known = {queue[0] for queue in net[1]}
        for name in list(net[0]) + ["q0", "u0", "u0.u0", "u0.q0", "u1.q1.q1", "q0.q0", "u0.", "u0..q0", "z"]:
            if name not in known:
                check_error(self, NoQueue, {"queue": name}, lambda: nest.queue_at(block, name))
        for name in list(known) + ["u0", "u0.a", "u0.b", "u1.g", "u0.u0.a", "u0.q0.a", "a.a", "a.", "z", "u0."]:
            if name not in net[0]:
                check_error(self, NoWorker, {"worker": name}, lambda: nest.lag(block, name))
        found = [nest.lag(block, worker) for worker in net[0]]
        if nest.table(block) is None:
            self.assertEqual(found, [None] * len(found))
        else:
            self.assertIs(shows_never(net, tuple(found)), True, (nest.text(), block))

    def check_block(self, nest, block):
        part = nest.unfolded(block)
        self.assertIs(is_part(part), True)
        self.assertEqual(nest.size(block), (len(part[0][0]), len(part[0][1])))
        self.assertEqual(nest.table(block), table_of(part), (nest.text(), block))
        self.check_ways(nest, block, part)
        self.check_names(nest, block, part)
        half = len(part[1]) // 2
        if len(part[1]) % 2:
            check_error(self, NoFit, {}, lambda: nest.row(block, 1))
            check_error(self, NoFit, {}, lambda: nest.longest(block))
            return
        link = (part[0], part[1][:half], part[1][half:])
        self.assertIs(is_link(link), True)
        self.assertEqual(nest.longest(block), longest(link))
        for many in (1, 2, 3, 7, 10 ** 45):
            self.assertEqual(nest.row(block, many), chain_table(link, many))

    def check_ring(self, nest, block):
        part = nest.unfolded(block)
        ring = nest.held_ring()
        lines = Lines(nest.text(), block)
        self.assertEqual((type(ring), lines.ends(ring[-1])[1]), (tuple, lines.ends(ring[0])[0]))
        for step, behind in zip(ring, ring[1:]):
            self.assertEqual(lines.ends(step)[1], lines.ends(behind)[0])
        self.assertLessEqual(sum(lines.cost(nest, step) for step in ring), 0)
        self.assertEqual(len(ring), self.fewest(nest, lines))
        steps, rooms, silences = nest.ring_sums()
        written = tuple(nest.ring_queue(place) for place in range(steps))
        self.assertIs(is_bad_ring(part[0], written), True, (nest.text(), written))
        self.assertLessEqual(rooms, silences)
        self.assertEqual(cost_of(part[0], written), rooms - silences)
        self.assertEqual(cost_of(part[0], [step for step in written if step[1] == "along"]), rooms)
        for place in (-1, steps, steps + 5, -steps):
            check_error(self, NoStep, {"place": place}, lambda: nest.ring_queue(place))

    def fewest(self, nest, lines):
        """The fewest steps from a worker back to it with a sum of 0 or less."""
        steps = [(lines.ends(step), lines.cost(nest, step)) for step in lines.steps(nest)]
        workers = {end for ends, _ in steps for end in ends}
        rows = {worker: {worker: 0} for worker in workers}
        for many in range(1, 20):
            for worker in workers:
                row = {}
                for (start, end), cost in steps:
                    if start in rows[worker]:
                        row[end] = min(rows[worker][start] + cost, row.get(end, rows[worker][start] + cost))
                rows[worker] = row
                if row.get(worker, 1) <= 0:
                    return many

    def check_nest(self, nest):
        held = [block for block in nest.blocks() if not never_held(nest.unfolded(block)[0])]
        for block in nest.blocks():
            self.check_block(nest, block)
            self.assertIs(nest.table(block) is None, block in held)
        self.assertEqual(nest.first_held(), held[0] if held else None)
        if held:
            self.check_ring(nest, held[0])
            return 1
        self.assertEqual((nest.held_ring(), nest.ring_sums()), (None, None))
        for place in (0, 1, -1):
            check_error(self, NoStep, {"place": place}, lambda: nest.ring_queue(place))
        return 0

    def test_the_document(self):
        self.check_nest(Nest(FOUR))
        self.check_nest(Nest(FOUR).changed("step", "q", 2, 1))
        # Behind a block without a Table others have one, or have none.
        self.check_nest(Nest(FOUR + "\n" + PLAIN + "\nblock more a b\nuse x plain a b\nuse y four a b c d"))

    def test_random_nests(self):
        source = random.Random(301)
        held = [self.check_nest(Nest(random_nest(source, 4))) for _ in range(130)]
        self.assertLess(30, sum(held))
        self.assertLess(sum(held), 100)

    def test_nests_of_many_levels(self):
        source = random.Random(302)
        used = 0
        for _ in range(40):
            nest = Nest(random_nest(source, 7, 12))
            sizes = [nest.size(block)[0] for block in nest.blocks()]
            if max(sizes) < 60:
                self.check_nest(nest)
                used = max(used, max(sizes))
        self.assertGreater(used, 30)

    def test_doors_alone(self):
        nest = Nest("block one z\nblock three c a b\nblock around x\nuse u one x\nuse v three x y w\nuse t one k")
        self.assertEqual(nest.unfolded("one"), ((("z",), ()), ("z",)))
        self.assertEqual(nest.unfolded("three"), ((("a", "b", "c"), ()), ("c", "a", "b")))
        self.assertEqual((nest.table("one").rows(), nest.table("three").rows()), (((0,),), ((0, None, None), (None, 0, None), (None, None, 0))))
        self.assertEqual(nest.unfolded("around"), ((("k", "w", "x", "y"), ()), ("x",)))
        self.assertEqual((nest.size("around"), nest.way_in("three", 0, 1), nest.way_in("three", 1, 1)), ((4, 0), None, ()))
        self.check_nest(nest)

    def test_no_door(self):
        nest = Nest(FOUR)
        for block in ("two", "four"):
            for i, j, place in ((4, 0, 4), (0, 4, 4), (-1, 9, -1), (3, -1, -1), (7, 5, 7), (HUGE, -HUGE, HUGE), (4, 4, 4)):
                check_error(self, NoDoor, {"place": place}, lambda: nest.way_in(block, i, j))
        self.assertEqual((nest.way_in("four", 0, 0), nest.way_in("four", 0, 1)), (None, None))
        self.assertEqual((nest.way_in("two", 0, 0), nest.way_in("step", 0, 3)), ((), None))

    def test_direct_costs_are_not_the_entries(self):
        nest = Nest("block line a b c\nqueue p b a 1 1\nqueue q c b 2 1\nblock over a c\nuse x line a m c")
        self.assertEqual((nest.table("line")[2, 0], nest.way_in("line", 2, 0)), (3, None))
        self.assertEqual(nest.way_in("over", 1, 0), (("use", "x", 2, 1), ("use", "x", 1, 0)))
        self.check_nest(nest)

    def test_odd_numbers_of_doors(self):
        nest = Nest("block one a b c\nqueue p a b 1 1\nqueue q b a 1 1\nblock two a b c\nqueue p a b 2 1")
        self.assertEqual((nest.table("one"), nest.table("two") is None), (None, False))
        for block in ("one", "two"):
            for act in (lambda: nest.row(block, 1), lambda: nest.row(block, 10 ** 45), lambda: nest.longest(block)):
                check_error(self, NoFit, {}, act)
        held = Nest("block one a b\nqueue p a b 1 1\nqueue q b a 1 1")
        self.assertEqual((held.row("one", 1), held.row("one", 9), held.longest("one")), (None, None, 0))


class LargeTest(unittest.TestCase):

    def test_forty_blocks(self):
        for room in (2 ** 37, 2 ** 37 + 5, HUGE):
            text = doubled(f"block step a c b d\nqueue p b a 3 3\nqueue q d c 1 1\nqueue r a c {room} 1", 39)
            nest = Nest(text)
            self.assertEqual((len(nest), nest.size("l38")), (40, (2 ** 39 * 2 + 2, 3 * 2 ** 39)))
            self.assertEqual(nest.longest("step"), room)
            self.assertEqual(nest.first_held(), "l37" if room < HUGE else None)
            for level in (0, 5, 36):
                self.assertEqual(nest.table(f"l{level}"), nest.row("step", 2 ** (level + 1)))
                self.assertEqual(nest.longest(f"l{level}"), room // 2 ** (level + 1))
            if room < HUGE:
                self.check_long_ring(nest, room)
            else:
                self.check_long_lags(nest)

    def check_long_ring(self, nest, room):
        ring = nest.held_ring()
        steps, rooms, silences = nest.ring_sums()
        self.assertLessEqual(rooms, silences)
        self.assertGreater(steps, 2 ** 30)
        source = random.Random(303)
        for place in [0, 1, steps - 1] + [source.randrange(steps) for _ in range(50)]:
            name, side = nest.ring_queue(place)
            start, end, _, _ = nest.queue_at("l37", name)
            here = (start, end) if side == "along" else (end, start)
            name, side = nest.ring_queue((place + 1) % steps)
            start, end, _, _ = nest.queue_at("l37", name)
            self.assertEqual(here[1], start if side == "along" else end)
        for place in (-1, steps, steps + 1, 2 ** 200):
            check_error(self, NoStep, {"place": place}, lambda: nest.ring_queue(place))
        self.assertEqual(nest.ring_sums(), Nest(nest.text()).ring_sums())
        self.assertEqual(ring, Nest(nest.text()).held_ring())

    def check_long_lags(self, nest):
        source = random.Random(304)
        many = nest.size("l38")[0]
        for _ in range(12):
            words = [source.choice("xy") for _ in range(39)]
            for queue in "pqr":
                path = ".".join(words + [queue])
                start, end, room, notice = nest.queue_at("l38", path)
                gap = nest.lag("l38", start) - nest.lag("l38", end)
                self.assertIs((notice - 1) * many < gap < room * many, True)
        for path in (".".join(["x"] * 40 + ["p"]), ".".join(["x"] * 38 + ["p"]), "z.p", "x"):
            check_error(self, NoQueue, {"queue": path}, lambda: nest.queue_at("l38", path))
            check_error(self, NoWorker, {"worker": path}, lambda: nest.lag("l38", path))
        deep = ".".join(["x", "y"] * 19 + ["m"])
        self.assertIs(type(nest.lag("l38", deep)), int)
        check_error(self, NoWorker, {"worker": "x.a"}, lambda: nest.lag("l38", "x.a"))

    def test_wide_blocks(self):
        # Twelve own workers, all of them doors, and each of forty blocks uses the one ahead.
        names = "abcdefghijkl"
        lines = ["block b0 " + " ".join(names)]
        lines += [f"queue q{place} {names[place + 1]} {names[place]} 9 2" for place in range(11)]
        for level in range(1, 40):
            lines += [f"block b{level} " + " ".join(names), f"use x b{level - 1} " + " ".join(names),
                      f"queue p {names[level % 11 + 1]} {names[level % 11]} 8 3"]
        nest = Nest("\n".join(lines))
        self.assertEqual((nest.first_held(), nest.size("b39")), (None, (12, 50)))
        self.assertEqual(nest.table("b39")[11, 0], 88)
        self.assertEqual(nest.table("b39"), table_of(nest.unfolded("b39")))
        net = nest.unfolded("b39")[0]
        self.assertIs(shows_never(net, tuple(nest.lag("b39", worker) for worker in net[0])), True)
        self.assertIsNone(nest.longest("b39"))
        self.assertIs(is_table(nest.row("b39", 10 ** 45).rows()), True)

    def test_a_ring_through_all_workers(self):
        # The ring over all workers costs just 1, so there is no room left between the lags.
        nest = Nest("block inner a b\nqueue p a m 2 2\nqueue q m b 1 1\nqueue r a b 9 3\nblock outer e f\nuse x inner f e\n"
                    "block around g h\nuse y outer h g")
        for block in nest.blocks():
            net = nest.unfolded(block)[0]
            self.assertEqual((len(net[0]), slack(net)), (3, 1))
            self.assertIs(shows_never(net, tuple(nest.lag(block, worker) for worker in net[0])), True)


class ChangeTest(unittest.TestCase):

    def test_changed(self):
        nest = Nest(FOUR)
        for block, queue, room, notice, line in (("step", "p", 9, 4, 1), ("step", "r", HUGE, HUGE, 3), ("step", "q", 1, 1, 2)):
            after = nest.changed(block, queue, room, notice)
            lines = FOUR.split("\n")
            lines[line] = " ".join(lines[line].split(" ")[:4] + [str(room), str(notice)])
            self.assertEqual(after, Nest("\n".join(lines)))
            self.assertEqual(nest.text(), FOUR)
        self.assertEqual(nest.changed(block="step", queue="q", room=2, notice=1).first_held(), None)
        self.assertEqual((nest.first_held(), nest.queue_at("step", "q")), ("four", ("d", "c", 1, 1)))

    def test_what_changed_refuses(self):
        nest = Nest(FOUR)
        for block, queue in (("two", "x"), ("two", "p"), ("two", "x.p"), ("step", "x"), ("step", ""), ("four", "x.x.p"), ("step", "a")):
            for room, notice in ((1, 1), (0, 0)):
                check_error(self, NoQueue, {"queue": queue}, lambda: nest.changed(block, queue, room, notice))
        for room, notice in ((0, 0), (0, 1), (1, 0), (1, 2), (-1, -2), (3, 4), (5, -1), (-5, 1), (HUGE, HUGE + 1)):
            check_error(self, BadQueue, {"queue": "q"}, lambda: nest.changed("step", "q", room, notice))
        self.assertEqual(nest, Nest(FOUR))

    def test_swapped(self):
        text = PLAIN + "\nblock other x y\nqueue p x y 4 2\nblock use plain other\nuse plain plain plain other\n" \
            "use other other plain other\nblock last a b\nuse x plain a b\nuse y use a b\nuse z plain b c"
        nest = Nest(text)
        lines = text.split("\n")
        for block, other, at in (("plain", "other", (5, 8, 10)), ("other", "plain", (6,)), ("plain", "use", (8, 10)),
                                 ("use", "plain", (9,)), ("plain", "plain", ()), ("last", "plain", ()), ("plain", "last", ()),
                                 ("last", "last", ()), ("other", "use", ())):
            after = [" ".join(line.split(" ")[:2] + [other] + line.split(" ")[3:]) if place in at else line
                     for place, line in enumerate(lines)]
            self.assertEqual(nest.swapped(block, other), Nest("\n".join(after)), (block, other))
            self.assertEqual(nest, Nest(text))
        self.assertEqual(nest.swapped(block="plain", other="other").table("last"), nest.table("last"))

    def test_swapped_keeps_tables_of_equal_ones(self):
        nest = Nest(FOUR)
        small = Nest(STEP + "\nblock like a c b d\nqueue p b a 3 3\nqueue q d c 1 1\nqueue r a c 3 1\nqueue s b a 8 1" + FOUR[len(STEP):])
        self.assertEqual(small.table("like"), small.table("step"))
        after = small.swapped("step", "like")
        self.assertNotEqual(after, small)
        for block in ("two", "four"):
            self.assertEqual(after.table(block), nest.table(block))

    def test_what_swapped_refuses(self):
        nest = Nest(FOUR + "\n" + PLAIN)
        check_error(self, NoBlock, {"block": "no"}, lambda: nest.swapped("no", "nor"))
        check_error(self, NoBlock, {"block": "nor"}, lambda: nest.swapped("two", "nor"))
        for block, other in (("two", "plain"), ("plain", "step"), ("plain", "four")):
            check_error(self, NoFit, {}, lambda: nest.swapped(block, other))

    def test_random_swaps(self):
        source = random.Random(305)
        done = 0
        for _ in range(300):
            nest = Nest(random_nest(source, 5))
            block, other = source.choice(nest.blocks()), source.choice(nest.blocks())
            if len(nest.unfolded(block)[1]) != len(nest.unfolded(other)[1]):
                check_error(self, NoFit, {}, lambda: nest.swapped(block, other))
                continue
            after = nest.swapped(block, other)
            done += after != nest
            for word in nest.blocks():
                self.assertEqual(after.table(word), table_of(after.unfolded(word)))
                if nest.table(block) == nest.table(other):
                    self.assertEqual(after.table(word), nest.table(word))
        self.assertGreater(done, 5)


if __name__ == "__main__":
    unittest.main()

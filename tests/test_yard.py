"""A net that is changed while it stands."""

import random
import unittest

from joinlags.errors import BadName, BadQueue, NoPart, NoQueue, NoTable, NothingDone, NoWorker
from joinlags.judge import is_bad_ring, never_held, shows_never
from joinlags.nets import is_net
from joinlags.tables import joined, part_of, table_of
from joinlags.yard import Yard
from checks import check_error
from samples import ALONE, BARE, CYCLE, DOUBLE, FORK, HUGE, TWO_GROUPS, WIDE, calm_net, listed, small_nets, wild_net

NETS = (ALONE, BARE, CYCLE, DOUBLE, FORK, TWO_GROUPS, WIDE)


def put(yard, queue, *worth):
    """A way to write yard[queue] = worth where only an expression may stand."""
    yard[queue] = worth


class QueueTest(unittest.TestCase):

    def test_put_in(self):
        yard = Yard(FORK)
        yard["r"] = ("s", "d", 5, 1)
        self.assertEqual(yard.net(), WIDE)
        yard["aa"] = ["d", "s", HUGE, 7]
        yard["z.1"] = ("d", "s", 1, 1)
        self.assertEqual(yard.net(), (WIDE[0], (("aa", "d", "s", HUGE, 7),) + WIDE[1] + (("z.1", "d", "s", 1, 1),)))
        self.assertEqual((yard["aa"], yard["r"], len(yard)), (("d", "s", HUGE, 7), ("s", "d", 5, 1), 5))
        self.assertEqual(("aa" in yard, "r" in yard, "a" in yard, "" in yard), (True, True, False, False))
        self.assertIs(is_net(yard.net()), True)
        yard["s"] = ("s", "a", 1, 1)
        self.assertEqual(yard["s"], ("s", "a", 1, 1))

    def test_no_queue(self):
        yard = Yard(FORK)
        for queue in ("x", "", "a", "P", "p."):
            check_error(self, NoQueue, {"queue": queue}, lambda: yard[queue])
            check_error(self, NoQueue, {"queue": queue}, lambda: yard.drop(queue))
        check_error(self, NothingDone, {}, yard.back)

    def test_what_is_refused(self):
        yard = Yard(FORK)
        for worth, kind, attributes in (
                (("x", "y", 0, 0), NoWorker, {"worker": "x"}), (("a", "y", 0, 0), NoWorker, {"worker": "y"}),
                (("x", "x", 1, 1), NoWorker, {"worker": "x"}), (("p", "a", 1, 1), NoWorker, {"worker": "p"}),
                (("a", "a", 1, 1), BadQueue, {"queue": "p"}), (("a", "d", 0, 0), BadQueue, {"queue": "p"}),
                (("a", "d", 0, 1), BadQueue, {"queue": "p"}), (("a", "d", 1, 0), BadQueue, {"queue": "p"}),
                (("a", "d", 1, 2), BadQueue, {"queue": "p"}), (("a", "d", -1, -2), BadQueue, {"queue": "p"}),
                (("a", "d", 5, -1), BadQueue, {"queue": "p"}), (("d", "d", 0, 9), BadQueue, {"queue": "p"})):
            for queue in ("p", "new"):
                told = {**attributes, "queue": queue} if "queue" in attributes else attributes
                check_error(self, kind, told, lambda: put(yard, queue, *worth))
                check_error(self, kind, told, lambda: put(yard, queue, *list(worth)))
        self.assertEqual(yard.net(), FORK)
        check_error(self, NothingDone, {}, yard.back)

    def test_nobody_goes_over_it(self):
        yard = Yard(FORK)
        for act in (lambda: list(yard), lambda: iter(yard), lambda: [name for name in yard]):
            self.assertRaises(TypeError, act)

    def test_drop_and_hire(self):
        yard = Yard(DOUBLE)
        self.assertIsNone(yard.drop("p"))
        self.assertEqual((yard.net(), len(yard), "p" in yard), ((DOUBLE[0], DOUBLE[1][1:]), 1, False))
        self.assertIsNone(yard.drop(queue="q"))
        self.assertEqual((yard.net(), len(yard)), (BARE, 0))
        self.assertEqual([yard.hire(worker) for worker in ("b", "a0", "a0", "aa", "a")], [False, True, False, True, False])
        self.assertIs(yard.hire(worker="z"), True)
        self.assertEqual(yard.net(), (("a", "a0", "aa", "b", "z"), ()))

    def test_arguments_are_copied(self):
        for net in NETS:
            rows = listed(net)
            yard = Yard(rows)
            self.assertEqual(yard.net(), net)
            rows[0].append("zz")
            rows[1][:] = []
            self.assertEqual(yard.net(), net)
        row = ["a", "d", 9, 9]
        yard = Yard(FORK)
        yard["new"] = row
        row[2] = 1
        self.assertEqual(yard["new"], ("a", "d", 9, 9))
        self.assertIs(type(yard["new"]), tuple)


class BackTest(unittest.TestCase):

    def test_to_the_beginning(self):
        yard = Yard(FORK)
        past = []
        for change in (lambda: put(yard, "p", "s", "a", 9, 2), lambda: put(yard, "p", "s", "a", 9, 2),
                       lambda: yard.hire("z"), lambda: put(yard, "t", "z", "a", 2, 1), lambda: yard.drop("q"),
                       lambda: yard.small(("a",), "new"), lambda: yard.hire("b")):
            past.append(yard.net())
            change()
        while past:
            self.assertIsNone(yard.back())
            self.assertEqual(yard.net(), past.pop())
        check_error(self, NothingDone, {}, yard.back)
        self.assertEqual(yard.net(), FORK)

    def test_what_leaves_nothing_to_undo(self):
        yard = Yard(WIDE)
        self.assertIs(yard.hire("a"), False)
        self.assertIs(yard.never_held(), True)
        yard.lags(), yard.ring(), yard.table(("a",)), yard.net(), yard.twin()
        for act in (lambda: yard.small(("x",), "new"), lambda: yard.small(("a", "d", "s"), "new"), lambda: yard.drop("x")):
            self.assertRaises((LookupError, ValueError), act)
        check_error(self, NothingDone, {}, yard.back)
        yard["r"] = ("s", "d", 5, 1)
        self.assertEqual(yard, Yard(WIDE))
        yard.back()
        check_error(self, NothingDone, {}, yard.back)

    def test_twins(self):
        yard = Yard(FORK)
        yard.drop("p")
        yard.hire("b")
        told = yard.lags()
        twin = yard.twin()
        self.assertEqual((twin, twin.net(), twin.lags()), (yard, yard.net(), told))
        twin.back()
        self.assertEqual(("b" in twin.net()[0], "b" in yard.net()[0]), (False, True))
        yard["t"] = ("b", "a", 1, 1)
        twin.back()
        self.assertEqual((twin.net(), len(yard)), (FORK, 3))
        check_error(self, NothingDone, {}, twin.back)
        yard.back(), yard.back(), yard.back()
        self.assertEqual(yard, twin)
        check_error(self, NothingDone, {}, yard.back)

    def test_equal(self):
        yard = Yard(FORK)
        self.assertEqual(Yard(listed(FORK)), yard)
        yard["r"] = ("s", "d", 5, 1)
        self.assertEqual(yard, Yard(WIDE))
        self.assertFalse(yard != Yard(WIDE))
        for other in (Yard(FORK), WIDE, None, 0):
            self.assertNotEqual(yard, other)
            self.assertNotEqual(other, yard)


class ReasonTest(unittest.TestCase):

    def check_reasons(self, yard, lags, ring):
        """The reasons told are right, and are those told last if these are right; what is told last now."""
        net = yard.net()
        free = never_held(net)
        self.assertIs(yard.never_held(), free)
        for _ in range(2):
            told = yard.lags()
            self.assertIs(told is not None, free)
            if free:
                self.assertIs(shows_never(net, told), True)
                self.assertTrue(told == lags or not shows_never(net, lags))
                lags = told
            told = yard.ring()
            self.assertIs(told is None, free)
            if not free:
                self.assertIs(is_bad_ring(net, told), True)
                self.assertTrue(told == ring or not is_bad_ring(net, ring))
                ring = told
        return lags, ring

    def change(self, source, yard):
        """Some change, by chance."""
        net = yard.net()
        kind = source.choice(["put", "put", "put", "drop", "hire", "small", "back"])
        try:
            if kind == "put":
                room = source.randint(1, 5)
                put(yard, f"q{source.randint(0, 5)}", *source.sample(net[0], 2), room, source.randint(1, room))
            elif kind == "drop":
                yard.drop(f"q{source.randint(0, 5)}")
            elif kind == "hire":
                yard.hire(source.choice("abcdef"))
            elif kind == "small":
                yard.small(tuple(sorted(source.sample(net[0], source.randint(1, 2)))), "n")
            else:
                yard.back()
        except (NoPart, NoQueue, NoTable, NothingDone, BadName, ValueError):
            return

    def test_changes_by_chance(self):
        source = random.Random(401)
        for net in small_nets(source, 40, 5, 5, 4):
            yard = Yard(net)
            told = self.check_reasons(yard, None, None)
            for _ in range(25):
                if len(yard.net()[0]) > 2:
                    self.change(source, yard)
                else:
                    yard.hire(source.choice("cdefgh"))
                told = self.check_reasons(yard, *told)
                if source.random() < 0.2:
                    self.check_reasons(yard.twin(), *told)

    def test_lags_stay_as_long_as_they_are_right(self):
        yard = Yard(WIDE)
        told = yard.lags()
        yard["r"] = ("s", "d", 50, 1)
        self.assertEqual(yard.lags(), told)
        yard.back()
        self.assertEqual(yard.lags(), told)
        yard["r"] = ("s", "d", 4, 1)
        self.assertEqual((yard.lags(), yard.ring() is None), (None, False))
        yard.drop("r")
        self.assertEqual(yard.lags(), told)
        # Numbers of three workers are none of four.
        yard.hire("z")
        more = yard.lags()
        self.assertEqual(len(more), 4)
        yard.back()
        self.assertEqual(len(yard.lags()), 3)
        self.assertEqual(yard.lags(), yard.twin().lags())

    def test_rings_stay_as_long_as_they_are_right(self):
        yard = Yard(FORK)
        told = yard.ring()
        yard["x"] = ("s", "a", 1, 1)
        yard["y"] = ("a", "s", 1, 1)
        self.assertEqual(yard.ring(), told)
        yard.drop("p")
        found = yard.ring()
        self.assertEqual({queue for queue, _ in found} <= {"x", "y", "q", "r"}, True)
        yard.back()
        self.assertEqual(yard.ring(), found)
        twin = yard.twin()
        yard.drop("x"), yard.drop("y")
        self.assertNotEqual(yard.ring(), found)
        self.assertEqual(twin.ring(), found)

    def test_what_was_told_last_outlives_back(self):
        yard = Yard(FORK)
        first = yard.ring()
        yard["p"] = ("s", "a", 3, 1)
        self.assertIsNone(yard.ring())
        told = yard.lags()
        yard.back()
        self.assertEqual((yard.ring(), yard.lags()), (first, None))
        yard["p"] = ("s", "a", 4, 1)
        self.assertTrue(yard.lags() == told or not shows_never(yard.net(), told))

    def test_large_nets(self):
        source = random.Random(402)
        yard = Yard(calm_net(source, 40, 60, 10 ** 39))
        told = self.check_reasons(yard, None, None)
        for queue in ("q03", "q30", "q59"):
            yard.drop(queue)
            self.assertEqual(self.check_reasons(yard, *told), told)
        self.check_reasons(Yard(wild_net(source, 40, 60, HUGE)), None, None)


class TableTest(unittest.TestCase):

    def test_tables(self):
        for net in NETS:
            yard = Yard(net)
            self.assertEqual(yard.table(net[0]), table_of((net, net[0])))
            self.assertEqual(yard.table(list(net[0][:1])), table_of((net, net[0][:1])))
            for doors, worker in ((("x",), "x"), ((net[0][0], "y", "x"), "y"), (["p", net[0][0]], "p")):
                check_error(self, NoWorker, {"worker": worker}, lambda: yard.table(doors))
        self.assertEqual(Yard(WIDE).table(doors=("s", "d")).rows(), ((0, 5), (-4, 0)))

    def test_tables_as_the_net_stands(self):
        yard = Yard(WIDE)
        yard["r"] = ("s", "d", 9, 1)
        self.assertEqual(yard.table(("s", "d")).rows(), ((0, 6), (-4, 0)))
        yard["r"] = ("s", "d", 4, 1)
        self.assertIsNone(yard.table(("s", "d")))


class SmallTest(unittest.TestCase):

    def check_small(self, yard, inner, name):
        """small does what the document tells, and all that stays is to one another as it was."""
        net = yard.net()
        gone = [queue for queue in net[1] if queue[1] in inner or queue[2] in inner]
        doors = tuple(sorted({end for queue in gone for end in queue[1:3]} - set(inner)))
        part = (tuple(sorted(doors + tuple(inner))), tuple(gone)), doors
        small = part_of(table_of(part))
        free, stay = yard.never_held(), tuple(worker for worker in net[0] if worker not in inner)
        table = yard.table(stay)
        self.assertIsNone(yard.small(inner, name))
        names = {worker: f"{name}.{worker}" for worker in small[0][0]}
        names.update(zip(small[1], doors))
        queues = [queue for queue in net[1] if queue not in gone]
        queues += [(f"{name}.{queue}", names[start], names[end], *rest) for queue, start, end, *rest in small[0][1]]
        self.assertEqual(yard.net(), (tuple(sorted(set(names.values()) | set(stay))), tuple(sorted(queues))))
        self.assertIs(is_net(yard.net()), True)
        self.assertEqual((yard.never_held(), yard.table(stay)), (free, table))
        after = yard.net()
        yard.back()
        self.assertEqual(yard.net(), net)
        yard.small(inner, name)
        self.assertEqual(yard.net(), after)

    def test_nets_by_chance(self):
        source = random.Random(403)
        done = {}
        for net in small_nets(source, 250, 6, 7, 5):
            yard = Yard(net)
            inner = tuple(sorted(source.sample(net[0], source.randint(1, 3 if len(net[0]) > 3 else 1))))
            gone = [queue for queue in net[1] if queue[1] in inner or queue[2] in inner]
            doors = tuple(sorted({end for queue in gone for end in queue[1:3]} - set(inner)))
            if not doors:
                check_error(self, NoPart, {}, lambda: yard.small(inner, "new"))
                key = "no part"
            elif table_of(((tuple(sorted(doors + inner)), tuple(gone)), doors)) is None:
                check_error(self, NoTable, {}, lambda: yard.small(inner, "new"))
                key = "no table"
            else:
                self.check_small(yard, inner, "new")
                key = "done"
            done[key] = done.get(key, 0) + 1
            if key != "done":
                self.assertEqual(yard.net(), net)
                check_error(self, NothingDone, {}, yard.back)
        self.assertGreater(min(done["no part"], done["no table"], done["done"]), 20)

    def test_again_and_again(self):
        source = random.Random(404)
        done = 0
        for net in small_nets(source, 150, 6, 7, 5):
            yard = Yard(net)
            for place in range(3):
                ends = sorted({end for queue in yard.net()[1] for end in queue[1:3]})
                if ends and yard.never_held():
                    self.check_small(yard, (source.choice(ends),), f"n{place}")
                    done += place == 2
        self.assertGreater(done, 30)

    def test_what_is_refused(self):
        yard = Yard(TWO_GROUPS)
        for inner, worker in ((("x",), "x"), (("a", "x", "y"), "x"), (("p",), "p"), (["c", "z"], "z")):
            check_error(self, NoWorker, {"worker": worker}, lambda: yard.small(inner, "new"))
        for inner in (("d",), ("a", "c"), ("a", "b", "c", "d", "e"), ("b", "d", "e")):
            check_error(self, NoPart, {}, lambda: yard.small(inner, "new"))
        held = Yard((FORK[0] + ("z",), FORK[1] + (("x", "s", "z", 1, 1),)))
        check_error(self, NoTable, {}, lambda: held.small(("a", "d"), "new"))
        check_error(self, NoTable, {}, lambda: held.small(inner=["a", "d", "s"], name="new"))
        self.assertIsNone(held.small(("z",), "new"))
        self.assertEqual(held.net(), FORK)

    def test_names_that_are_taken(self):
        # Two entries of 1 bring a worker w0.1 and the queues q0.1 and q1.0.
        net = (("a", "b", "m"), (("p", "a", "m", 1, 1), ("q", "b", "m", 1, 1)))
        free = (("a", "b", "new.w0.1"), (("new.q0.1", "a", "new.w0.1", 1, 1), ("new.q1.0", "b", "new.w0.1", 1, 1)))
        yard = Yard(net)
        yard.small(("m",), "new")
        self.assertEqual(yard.net(), free)
        # By what goes a name is not taken.
        yard.small(("new.w0.1",), "new")
        self.assertEqual(yard.net(), free)
        yard.back(), yard.back()
        for change in (lambda yard: put(yard, "new.q0.1", "a", "b", 9, 1), lambda yard: put(yard, "new.q1.0", "b", "a", 9, 1),
                       lambda yard: yard.hire("new.w0.1")):
            other = yard.twin()
            change(other)
            before = other.net()
            check_error(self, BadName, {"name": "new"}, lambda: other.small(("m",), "new"))
            self.assertEqual(other.net(), before)
            other.small(("m",), "news")
            other.back(), other.back()
            self.assertEqual(other.net(), net)
        # A door may have the name, too; a queue and a worker may have the same.
        door = Yard((("a", "m", "new.w0.1"), (("p", "a", "m", 1, 1), ("q", "new.w0.1", "m", 1, 1))))
        check_error(self, BadName, {"name": "new"}, lambda: door.small(("m",), "new"))
        both = Yard((("a", "b", "m", "new.q0.1"), net[1] + (("new.w0.1", "a", "b", 9, 1),)))
        self.assertIsNone(both.small(("m",), "new"))
        self.assertEqual(len(both), 3)

    def test_doors_keep_their_queues(self):
        net = (("a", "b", "m", "z"), (("p", "a", "m", 5, 2), ("q", "m", "b", 4, 1), ("r", "a", "b", 9, 1),
                                      ("s", "b", "z", 2, 1)))
        yard = Yard(net)
        yard.small(("m",), "n")
        self.assertEqual(yard.net(), (("a", "b", "z"), (("n.q0.1", "a", "b", 9, 2), ("r", "a", "b", 9, 1),
                                                        ("s", "b", "z", 2, 1))))

    def test_inner_workers_without_queues(self):
        yard = Yard((("a", "b", "c"), (("p", "a", "b", 3, 1),)))
        yard.small(("b", "c"), "n")
        self.assertEqual(yard.net(), (("a",), ()))
        self.assertIsNone(yard.back())
        self.assertEqual(len(yard), 1)

    def test_a_part_of_a_large_net(self):
        source = random.Random(405)
        net = calm_net(source, 40, 60, 10 ** 39)
        joined_net = joined((net, ("w00", "w39")), (WIDE, ("s", "d")))
        yard = Yard(joined_net)
        table = yard.table(("a.w00", "a.w39"))
        yard.small(tuple(f"a.w{place:02}" for place in range(1, 39)), "small")
        self.assertEqual((yard.table(("a.w00", "a.w39")), yard.never_held()), (table, never_held(joined_net)))
        self.assertLess(len(yard.net()[0]), 5)


if __name__ == "__main__":
    unittest.main()

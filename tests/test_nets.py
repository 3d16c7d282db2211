"""Nets: what is one, its groups, its idle workers, its rings."""

import itertools
import random
import unittest

from joinlags.errors import NoWorker
from joinlags.nets import Way, groups, idle, incoming, is_counts, is_drops, is_net, outgoing, rings, slack
from samples import BARE, CYCLE, DOUBLE, FORK, HUGE, TWO_GROUPS, listed, random_net


def nested(depth):
    """A value nested so deep."""
    thing = ()
    for _ in range(depth - 1):
        thing = (thing,)
    return thing


STRANGE = [True, False, None, 0, 1, -1, HUGE, "", "a", "net", [], (), [[]], ((),), ("a",), ["a"], nested(12),
           [nested(11)], (None, None), (True, False), ("a", "b"), (("a",),), ((), ()), ([], [])]


class IsNetTest(unittest.TestCase):

    def check_workers(self, expected, *many):
        for workers in many:
            self.assertIs(is_net((workers, ())), expected, workers)

    def check_queue(self, expected, *many):
        for queue in many:
            self.assertIs(is_net((("a", "b", "c"), (queue,))), expected, queue)

    def check_names(self, expected, *many):
        for name in many:
            self.check_workers(expected, (name,))
            self.check_queue(expected, (name, "a", "b", 1, 1))

    def test_nets(self):
        for net in (FORK, CYCLE, DOUBLE, TWO_GROUPS, BARE, (("z",), ())):
            self.assertIs(is_net(net), True)
        self.assertIs(is_net(thing=FORK), True)

    def test_names(self):
        self.check_names(True, "a", "z", "a0", "z9", "a.", "a..b", "b.c.0", "x" * 400, "a" + "0" * 400)
        self.check_names(False, "", "A", "aB", "0", "9a", ".", ".a", "a b", " a", "a ", "a_b", "a-b", "a\n",
                         "\u00e4", "a\u00e4", "a\u0660", "\u0430", "a\u0000", "az{", "a/", "a:", "`a", "{")
        self.check_names(False, 1, True, None, ("a",), ["a"], ("a", "b"), (), nested(9))

    def test_same_names(self):
        self.check_queue(True, ("a", "a", "b", 1, 1), ("b", "a", "b", 1, 1))

    def test_workers(self):
        self.check_workers(True, ("a",), ("a", "b"), ("a", "a.", "a0", "aa"))
        self.check_workers(False, (), ("b", "a"), ("a", "a"), ("a", "b", "b"), ("a", "c", "b"), ["a"], "a", "ab",
                           None, 1, True, ("a", None), ("a", 1), (("a",),), ("a", ["b"]))

    def test_more_than_the_bounds(self):
        workers = tuple(sorted(f"w{place}" for place in range(300)))
        queues = tuple(sorted((f"q{place}", "w1", "w2", 10 ** 60, 10 ** 59) for place in range(300)))
        self.assertIs(is_net((workers, queues)), True)

    def test_queues(self):
        self.check_queue(True, ("p", "a", "b", 1, 1), ("p", "b", "a", 2, 1), ("p", "c", "a", HUGE, HUGE),
                         ("p", "a", "c", HUGE, 1))
        self.check_queue(False, ("p", "a", "a", 1, 1), ("p", "a", "d", 1, 1), ("p", "d", "a", 1, 1),
                         ("p", "a", "b", 0, 0), ("p", "a", "b", 0, 1), ("p", "a", "b", 1, 0), ("p", "a", "b", -1, -1),
                         ("p", "a", "b", 1, 2), ("p", "a", "b", HUGE, HUGE + 1), ("p", "a", "b", 2, -1))
        self.check_queue(False, (), ("p",), ("p", "a", "b", 1), ("p", "a", "b", 1, 1, 1), ["p", "a", "b", 1, 1],
                         "pabcd", None, True, 5, nested(10))

    def test_entries_of_other_kinds(self):
        right = ("p", "a", "b", 2, 1)
        strange = [True, False, None, [], ["a"], (), ("a",), nested(9), [1], (1,)]
        for place in range(5):
            for thing in strange + ([1, 2] if place < 3 else ["1", "a", ""]):
                self.check_queue(False, right[:place] + (thing,) + right[place + 1:])

    def test_true_is_no_room(self):
        self.check_queue(False, ("p", "a", "b", True, 1), ("p", "a", "b", 1, True), ("p", "a", "b", True, True))

    def test_rows_of_queues(self):
        p, q = ("p", "a", "b", 1, 1), ("q", "a", "b", 1, 1)
        for queues in ((p,), (p, q), ()):
            self.assertIs(is_net((("a", "b"), queues)), True)
        other_p = ("p", "b", "a", 2, 1)
        for queues in ((q, p), (p, p), (p, other_p), (p, q, q), [p, q], [], p, None, "", "pq", 0, (p, None), (None,)):
            self.assertIs(is_net((("a", "b"), queues)), False, queues)

    def test_other_things(self):
        for thing in STRANGE + [listed(FORK), [FORK[0], FORK[1]], (FORK[0],), FORK + ((),), (FORK[1], FORK[0]),
                                (list(FORK[0]), FORK[1]), (FORK[0], list(FORK[1])), (FORK,), FORK[0], FORK[1]]:
            self.assertIs(is_net(thing), False, thing)


class IsCountsTest(unittest.TestCase):

    def test_counts(self):
        for net in (FORK, listed(FORK)):
            for counts in ((0, 0, 0), (0, 0, 4), (HUGE, 10 ** 50, 1)):
                self.assertIs(is_counts(net, counts), True)
        self.assertIs(is_counts(net=BARE, thing=(1, 2)), True)

    def test_other_things(self):
        for thing in ((0, 0), (0, 0, 0, 0), (), [0, 0, 4], (0, 0, -1), (-1, 0, 0), (0, True, 0), (False, 0, 0),
                      (0, None, 0), (0, "1", 0), (0, (1,), 0), (0, [1], 0), "abc", "000", 3, None, nested(3)):
            self.assertIs(is_counts(FORK, thing), False, thing)
        for thing in STRANGE:
            self.assertIs(is_counts(FORK, thing), False, thing)


class IsDropsTest(unittest.TestCase):

    def test_drops(self):
        for net in (FORK, listed(FORK)):
            for drops in ((), (("p", 1),), (("p", 1), ("p", 2), ("r", 1)), (("p", 9), ("q", 10), ("q", 11)),
                          (("p", HUGE),)):
                self.assertIs(is_drops(net, drops), True, drops)
        self.assertIs(is_drops(net=BARE, thing=()), True)

    def test_other_things(self):
        for thing in ((("p", 3), ("p", 1)), (("q", 1), ("p", 1)), (("p", 1), ("p", 1)), (("x", 1),), (("a", 1),),
                      (("p", 0),), (("p", -1),), (("p", True),), (("p", None),), (("p", "1"),), (("p", [1]),),
                      (("p", (1,)),), (("p",),), (("p", 1, 1),), (["p", 1],), [("p", 1)], [], ("p", 1), "p1", ("p1",),
                      ((1, "p"),), ((None, 1),), ((True, 1),), ((["p"], 1),), ((("p",), 1),), ((), ()),
                      (("p", 1), None), (("p", 1), ["q", 1]), ((nested(9), 1),), (("p", nested(9)),), (("", 1),)):
            self.assertIs(is_drops(FORK, thing), False, thing)
        self.assertIs(is_drops(BARE, (("p", 1),)), False)
        for thing in STRANGE:
            self.assertIs(is_drops(FORK, thing), thing == (), thing)


class NeighboursTest(unittest.TestCase):

    def test_queues_at_a_worker(self):
        for net in (FORK, listed(FORK)):
            self.assertEqual(incoming(net, "d"), ("q", "r"))
            self.assertEqual(incoming(net, "s"), ())
            self.assertEqual(incoming(net, worker="a"), ("p",))
            self.assertEqual(outgoing(net, "s"), ("p", "r"))
            self.assertEqual(outgoing(net, "d"), ())
            self.assertEqual(outgoing(net=net, worker="a"), ("q",))
        self.assertEqual(incoming(DOUBLE, "b"), ("p", "q"))
        self.assertEqual(outgoing(DOUBLE, "a"), ("p", "q"))

    def test_a_worker_and_a_queue_of_the_same_name(self):
        net = (("p", "q"), (("p", "p", "q", 1, 1), ("r", "q", "p", 1, 1)))
        self.assertEqual((incoming(net, "p"), outgoing(net, "p"), incoming(net, "q")), (("r",), ("p",), ("p",)))
        self.assertEqual(Way(net, "p", ("p",)).workers(), ("p", "q"))

    def test_no_worker(self):
        for call in (incoming, outgoing):
            for net in (FORK, listed(FORK)):
                with self.assertRaises(NoWorker) as caught:
                    call(net, "p")
                self.assertEqual(caught.exception.worker, "p")


class GroupsTest(unittest.TestCase):

    def test_groups(self):
        self.assertEqual(groups(TWO_GROUPS), [("a", "c"), ("b", "e"), ("d",)])
        self.assertEqual(groups(net=listed(TWO_GROUPS)), [("a", "c"), ("b", "e"), ("d",)])
        self.assertEqual(groups(BARE), [("a",), ("b",)])
        self.assertEqual(groups(FORK), [("a", "d", "s")])
        self.assertEqual(groups(CYCLE), [("i", "j", "s", "t")])

    def test_connected_by_queues_of_any_direction(self):
        net = (("a", "b", "c", "d", "e"),
               (("p", "e", "d", 1, 1), ("q", "b", "c", 1, 1), ("r", "e", "c", 1, 1), ("s", "b", "a", 1, 1)))
        self.assertEqual(groups(net), [("a", "b", "c", "d", "e")])

    def test_the_list_is_new(self):
        first = groups(FORK)
        first.append("x")
        self.assertEqual(groups(FORK), [("a", "d", "s")])

    def test_idle(self):
        self.assertEqual(idle(CYCLE), ("i", "j", "t"))
        self.assertEqual(idle(net=listed(CYCLE)), ("i", "j", "t"))
        for net in (FORK, DOUBLE, TWO_GROUPS, BARE, (("z",), ())):
            self.assertEqual(idle(net), ())

    def test_idle_far_behind_a_cycle(self):
        net = (("a", "b", "c", "d", "e", "f"),
               (("p", "c", "b", 1, 1), ("q", "b", "c", 9, 9), ("r", "b", "e", 1, 1), ("s", "e", "d", 1, 1),
                ("t", "f", "c", 1, 1), ("u", "f", "a", 1, 1)))
        self.assertEqual(idle(net), ("b", "c", "d", "e"))

    def test_idle_on_a_long_cycle(self):
        workers = tuple(f"w{place}" for place in range(10, 50))
        queues = tuple((f"q{place}", workers[place], workers[(place + 1) % 40], 1, 1) for place in range(40))
        self.assertEqual(idle((workers, queues)), workers)
        self.assertEqual(idle((workers, queues[:-1])), ())


def rings_by_trying(net):
    """All rings of a net: every row of queues without repetition is tried."""
    names = [queue[0] for queue in net[1]]
    found = set()
    for many in range(2, len(names) + 1):
        for row in itertools.permutations(names, many):
            for start in net[0]:
                ring = ring_over(net, start, row)
                if ring:
                    found.add(ring)
    return sorted(found)


def ring_over(net, start, row):
    table = {queue[0]: queue for queue in net[1]}
    steps, met = [], [start]
    for name in row:
        _, first, second, _, _ = table[name]
        if met[-1] not in (first, second):
            return None
        along = met[-1] == first
        steps.append((name, "along" if along else "against"))
        met.append(second if along else first)
    if met[0] != met[-1] or met[0] != min(met) or len(set(met)) != len(met) - 1:
        return None
    return tuple(steps)


def cost_of(net, steps):
    table = {queue[0]: queue for queue in net[1]}
    return sum(table[name][3] if side == "along" else 1 - table[name][4] for name, side in steps)


class RingsTest(unittest.TestCase):

    def test_rings(self):
        self.assertEqual(rings(net=listed(FORK)), rings(FORK))
        self.assertEqual(rings(BARE), [])
        self.assertEqual(rings((("a", "b"), (("p", "a", "b", 2, 1),))), [])

    def test_several_queues_between_two_workers(self):
        self.assertEqual(rings(DOUBLE), [(("p", "along"), ("q", "against")), (("q", "along"), ("p", "against"))])
        self.assertEqual(slack(DOUBLE), 2)
        both = (("a", "b"), (("p", "a", "b", 2, 2), ("q", "b", "a", 5, 3)))
        self.assertEqual(rings(both), [(("p", "along"), ("q", "along")), (("q", "against"), ("p", "against"))])
        self.assertEqual(slack(both), -3)

    def test_all_rings_are_found(self):
        source = random.Random(4)
        for _ in range(60):
            net = random_net(source, 5, 6, 4)
            expected = rings_by_trying(net)
            self.assertEqual(rings(net), expected, net)
            self.assertEqual(slack(net), min([cost_of(net, ring) for ring in expected], default=None), net)

    def test_each_is_a_ring_of_the_least_worker(self):
        for ring in rings(FORK):
            way = Way(FORK, "a", [name for name, _ in ring])
            self.assertTrue(way.is_ring())
            self.assertEqual(way.steps(), ring)

    def test_rings_of_several_groups(self):
        net = (("a", "b", "c", "d"), (("p", "a", "b", 9, 1), ("q", "a", "b", 8, 1), ("r", "d", "c", 3, 2),
                                      ("s", "d", "c", 4, 4)))
        self.assertEqual([ring[0] for ring in rings(net)],
                         [("p", "along"), ("q", "along"), ("r", "against"), ("s", "against")])
        self.assertEqual(slack(net), 0)

    def test_slack(self):
        self.assertEqual((slack(FORK), slack(net=listed(FORK)), slack(BARE)), (0, 0, None))
        self.assertEqual(slack(CYCLE), 0)
        wide = (("a", "b"), (("p", "a", "b", HUGE, 1), ("q", "a", "b", HUGE, HUGE)))
        self.assertEqual(slack(wide), 1)
        self.assertEqual(slack((("a", "b"), (("p", "a", "b", HUGE, HUGE), ("q", "b", "a", 3, HUGE // 2)))),
                         2 - HUGE - HUGE // 2)

    def test_the_list_is_new(self):
        first = rings(DOUBLE)
        first.clear()
        self.assertEqual(len(rings(DOUBLE)), 2)


class ArgumentsTest(unittest.TestCase):

    def test_arguments_are_not_changed(self):
        for net in (FORK, CYCLE, TWO_GROUPS):
            given = listed(net)
            groups(given), idle(given), rings(given), slack(given), incoming(given, net[0][0])
            outgoing(given, net[0][0]), is_counts(given, ()), is_drops(given, ())
            self.assertEqual(given, listed(net))


if __name__ == "__main__":
    unittest.main()

"""Which notices and rooms are good."""

import itertools
import random
import unittest

from joinlags.errors import NoQueue
from joinlags.judge import never_held
from joinlags.nets import is_net
from joinlags.tune import (fewest_sure, filled, full, greatest_common, greatest_notice, limits, raised, sure_sets)
from checks import check_call, check_error
from ring_sums import bad_rings
from samples import (ALONE, BARE, CYCLE, DOUBLE, FORK, HUGE, TWO_GROUPS, WIDE, calm_net, listed, sloped_net,
                     small_nets, wild_net)

NETS = (ALONE, BARE, CYCLE, DOUBLE, FORK, TWO_GROUPS, WIDE)
ONE_QUEUE = (("a", "b"), (("p", "a", "b", 2, 1),))
SLIM = (FORK[0], (("p", "s", "a", 3, 1), ("q", "a", "d", 3, 1), ("r", "s", "d", 4, 1)))
HUGE_FORK = (FORK[0], (("p", "s", "a", HUGE, 3), ("q", "a", "d", HUGE, 7), ("r", "s", "d", HUGE, 1)))


def with_notices(net, notices):
    """The net with these notices, in the order of its queues."""
    return (net[0], tuple(queue[:4] + (notice,) for queue, notice in zip(net[1], notices)))


def is_calm(net):
    return bad_rings(net) == []


class RaisedTest(unittest.TestCase):

    def test_edges(self):
        for room, notice in ((1, 1), (9, 1), (9, 9), (HUGE, HUGE)):
            net = raised(FORK, "q", room, notice)
            self.assertEqual(net, (FORK[0], (FORK[1][0], ("q", "a", "d", room, notice), FORK[1][2])))
            self.assertIs(is_net(raised(listed(FORK), "q", room, notice)), True)
        self.assertEqual(raised(raised(FORK, "q", 1, 1), "q", 3, 3), FORK)

    def test_no_queue(self):
        for act in (lambda: raised(FORK, "a", 2, 1), lambda: limits(FORK, "a"), lambda: greatest_notice(FORK, "a"),
                    lambda: raised(FORK, "a", 2, 3), lambda: limits(BARE, "a"), lambda: greatest_notice(CYCLE, "i")):
            with self.assertRaises(LookupError):
                act()
        for name in ("a", "pp", "z"):
            check_error(self, NoQueue, {"queue": name}, lambda: raised(FORK, name, 2, 1))
            check_error(self, NoQueue, {"queue": name}, lambda: limits(FORK, name))
            check_error(self, NoQueue, {"queue": name}, lambda: greatest_notice(FORK, name))

    def test_calls(self):
        check_call(self, raised, net=FORK, queue="r", room=5, notice=2)
        for net in (FORK, WIDE, DOUBLE):
            for function in (limits, greatest_notice):
                check_call(self, function, net=net, queue="p")


class LimitsTest(unittest.TestCase):

    def test_edges(self):
        self.assertEqual(limits(ONE_QUEUE, "p"), (None, 1))
        self.assertEqual((limits(TWO_GROUPS, "q"), greatest_notice(TWO_GROUPS, "q")), ((None, 1), 2))
        self.assertEqual((limits(CYCLE, "a"), greatest_notice(CYCLE, "a")), (None, None))
        self.assertEqual((limits(CYCLE, "c"), greatest_notice(CYCLE, "d")), (None, None))
        # Without b there is no cycle, but with it there is, whatever its room and notice are.
        self.assertEqual((limits(CYCLE, "b"), greatest_notice(CYCLE, "b")), (None, None))
        self.assertEqual((limits(DOUBLE, "p"), limits(DOUBLE, "q")), ((5, 1), (2, 2)))
        self.assertEqual((limits(HUGE_FORK, "r"), limits(HUGE_FORK, "p")), ((2 * HUGE, 9), (HUGE - 6, 1)))
        self.assertEqual([greatest_notice(HUGE_FORK, queue) for queue in "pqr"], [HUGE - 6, HUGE - 2, HUGE])

    def test_a_second_of_1_and_a_cost_of_0(self):
        net = (("a", "b", "c"), (("p", "a", "b", 7, 1), ("q", "b", "c", 7, 2), ("r", "a", "c", 3, 3)))
        self.assertEqual(limits(net, "r"), (14, 2))
        self.assertEqual(limits(with_notices(net, (1, 1, 3)), "r"), (14, 1))
        self.assertEqual(limits((net[0], net[1][:2] + (("r", "c", "a", 3, 3),)), "r"), None)

    def check_limits(self, net, high):
        for name, _, _, room, _ in net[1]:
            found = limits(net, name)
            for some in range(1, high):
                for notice in range(1, some + 1):
                    good = found is not None and (found[0] is None or notice <= found[0]) and some >= found[1]
                    self.assertIs(is_calm(raised(net, name, some, notice)), good, (net, name, some, notice))
            if found is not None:
                self.assertEqual((type(found), found[0] is None or found[0] >= 1, found[1] >= 1), (tuple, True, True))
            good = [notice for notice in range(1, room + 1) if is_calm(raised(net, name, room, notice))]
            self.assertEqual(greatest_notice(net, name), max(good, default=None), net)

    def test_each_room_and_notice(self):
        source = random.Random(101)
        for net in small_nets(source, 60, 4, 5, 4) + [FORK, WIDE, SLIM, CYCLE, DOUBLE]:
            self.check_limits(net, 13)

    def test_large_nets(self):
        source = random.Random(102)
        for make in (calm_net, wild_net):
            net = make(source, 40, 60, HUGE)
            for name, _, _, room, notice in net[1][::9]:
                found = limits(net, name)
                if found is None:
                    self.assertFalse(any(never_held(raised(net, name, HUGE, some)) for some in (1, 2, HUGE)))
                    continue
                most = found[0] if found[0] is not None else 3 * HUGE
                least = found[1]
                self.assertIs(never_held(raised(net, name, max(most, least), most)), True)
                self.assertIs(never_held(raised(net, name, least, 1)), True)
                if found[0] is not None:
                    self.assertIs(never_held(raised(net, name, max(most + 1, least), most + 1)), False)
                if least > 1:
                    self.assertIs(never_held(raised(net, name, least - 1, 1)), False)
                self.assertEqual(greatest_notice(net, name), min(most, room) if least <= room else None)


class CommonTest(unittest.TestCase):

    def test_edges(self):
        self.assertEqual([greatest_common(net) for net in (ALONE, BARE, ONE_QUEUE, TWO_GROUPS)], [None] * 4)
        self.assertEqual([greatest_common(net) for net in (CYCLE, FORK, WIDE)], [0, 2, None])
        self.assertEqual(greatest_common(HUGE_FORK), HUGE // 2)
        self.assertEqual(greatest_common((("a", "b"), (("p", "a", "b", 1, 1), ("q", "a", "b", HUGE, 5)))), 1)
        self.assertEqual(greatest_common((("a", "b"), (("p", "a", "b", 1, 1), ("q", "a", "b", 1, 1)))), None)

    def test_each_number(self):
        source = random.Random(103)
        for net in small_nets(source, 150, 5, 7, 6) + list(NETS):
            good = [many for many in range(1, 12)
                    if is_calm(with_notices(net, [min(many, queue[3]) for queue in net[1]]))]
            # With the greatest room and above it nothing changes.
            expected = None if len(good) == 11 else max(good, default=0)
            self.assertEqual(greatest_common(net), expected, net)

    def test_large_nets(self):
        source = random.Random(104)
        self.assertEqual(greatest_common(wild_net(source, 40, 60, HUGE)), 0)
        for _ in range(2):
            net = sloped_net(source, 40, 60, HUGE)
            many = greatest_common(net)
            self.assertTrue(never_held(with_notices(net, [min(many, queue[3]) for queue in net[1]])))
            self.assertFalse(never_held(with_notices(net, [min(many + 1, queue[3]) for queue in net[1]])))

    def test_calls(self):
        for net in NETS:
            for function in (greatest_common, full, sure_sets, fewest_sure):
                check_call(self, function, net=net)


class FullTest(unittest.TestCase):

    def is_full(self, net):
        ups = [queue[4] + 1 for queue in net[1]]
        return is_calm(net) and not any(
            is_calm(raised(net, queue[0], queue[3], up)) for queue, up in zip(net[1], ups) if up <= queue[3])

    def test_edges(self):
        for net, expected in ((ALONE, True), (BARE, True), (ONE_QUEUE, False), (raised(ONE_QUEUE, "p", 2, 2), True),
                              (FORK, False), (WIDE, False), (CYCLE, False), (SLIM, False), (TWO_GROUPS, True),
                              (DOUBLE, False), (raised(DOUBLE, "q", 5, 2), True)):
            self.assertIs(full(net), expected, net)

    def test_no_notice_below_its_room(self):
        source = random.Random(105)
        for net in small_nets(source, 60, 4, 5, 3):
            brim = with_notices(net, [queue[3] for queue in net[1]])
            self.assertIs(full(brim), is_calm(brim))

    def test_each_queue(self):
        source = random.Random(106)
        for net in small_nets(source, 150, 4, 5, 4):
            self.assertIs(full(net), self.is_full(net), net)

    def test_filled(self):
        source = random.Random(107)
        for net in small_nets(source, 100, 4, 5, 5) + [SLIM, WIDE, ONE_QUEUE, ALONE, HUGE_FORK]:
            order = [queue[0] for queue in net[1]]
            source.shuffle(order)
            found = filled(net, tuple(order))
            if not is_calm(net):
                self.assertIsNone(found)
                continue
            self.assertIs(is_net(found), True)
            self.assertIs(full(found), True)
            expected = net
            for name in order:
                room = [queue[3] for queue in net[1] if queue[0] == name][0]
                expected = raised(expected, name, room, greatest_notice(expected, name))
            self.assertEqual(found, expected)

    def test_the_order_matters(self):
        found = {"".join(order): [queue[4] for queue in filled(SLIM, order)[1]] for order in itertools.permutations("pqr")}
        self.assertEqual(found, {"pqr": [3, 2, 4], "prq": [3, 2, 4], "rpq": [3, 2, 4],
                                 "qpr": [2, 3, 4], "qrp": [2, 3, 4], "rqp": [2, 3, 4]})

    def test_large_nets(self):
        source = random.Random(108)
        net = calm_net(source, 40, 60, HUGE)
        found = filled(net, [queue[0] for queue in net[1]][::-1])
        self.assertIs(full(found), True)
        self.assertTrue(all(after[:4] == before[:4] and after[4] >= before[4]
                            for after, before in zip(found[1], net[1])))

    def test_no_queue(self):
        for net in (FORK, SLIM, listed(CYCLE)):
            check_error(self, NoQueue, {"queue": "x"}, lambda: filled(net, ("x", "y")))
            check_error(self, NoQueue, {"queue": "y"}, lambda: filled(net, ["a" if net[0][0] == "i" else "p", "y", "x"]))
        check_error(self, NoQueue, {"queue": "a"}, lambda: filled(FORK, ("p", "q", "r", "a")))
        self.assertEqual((filled(ALONE, ()), filled(BARE, [])), (ALONE, BARE))

    def test_calls(self):
        for net in (SLIM, WIDE, FORK):
            check_call(self, filled, net=net, order=("q", "r", "p"))


class SureTest(unittest.TestCase):

    def with_sure(self, net, names):
        return with_notices(net, [1 if queue[0] in names else queue[4] for queue in net[1]])

    def test_edges(self):
        for net in (ALONE, BARE, WIDE, ONE_QUEUE, DOUBLE, TWO_GROUPS):
            self.assertEqual((sure_sets(net), fewest_sure(net)), ([()], ()))
        self.assertEqual((sure_sets(CYCLE), fewest_sure(CYCLE)), ([], None))
        net = (("a", "b", "c", "d"), (("p", "a", "b", 9, 9), ("q", "b", "c", 9, 9), ("r", "a", "c", 4, 1),
                                      ("s", "a", "d", 1, 1), ("t", "a", "d", 4, 4)))
        self.assertEqual((sure_sets(net), fewest_sure(net)), ([("p", "q", "t")], ("p", "q", "t")))
        slim = raised(net, "p", 4, 4)
        self.assertEqual((sure_sets(slim), fewest_sure(slim)), ([("q", "t")], ("q", "t")))
        both = raised(slim, "q", 4, 4)
        self.assertEqual((sure_sets(both), fewest_sure(both)), ([("p", "t"), ("q", "t")], ("p", "t")))

    def test_the_fewest_and_not_the_first(self):
        net = (("a", "b", "c"), (("p", "a", "b", 4, 3), ("q", "a", "b", 4, 3), ("r", "b", "c", 4, 4), ("s", "a", "c", 4, 1)))
        self.assertEqual((sure_sets(net), fewest_sure(net)), ([("p", "q"), ("r",)], ("r",)))

    def test_ascending_and_not_as_the_queues_come(self):
        net = (("a", "b", "c", "d"), (("p", "a", "b", 9, 3), ("q", "b", "c", 9, 3), ("r", "c", "d", 9, 3),
                                      ("x", "a", "c", 4, 1), ("y", "b", "d", 4, 1)))
        self.assertEqual((sure_sets(net), fewest_sure(net)), ([("p", "r"), ("q",)], ("q",)))

    def test_all_sets(self):
        source = random.Random(109)
        nets = small_nets(source, 60, 4, 6, 4) + [FORK, WIDE, HUGE_FORK, raised(HUGE_FORK, "p", HUGE, HUGE)]
        nets += [sloped_net(source, 4, 6, 20) for _ in range(20)]
        for net in nets:
            names = [queue[0] for queue in net[1]]
            rows = [row for many in range(len(names) + 1) for row in itertools.combinations(names, many)]
            enough = {row: is_calm(self.with_sure(net, row)) for row in rows}
            least = sorted(row for row in rows if enough[row] and not any(
                enough[row[:place] + row[place + 1:]] for place in range(len(row))))
            self.assertEqual(sure_sets(net), least, net)
            self.assertEqual(fewest_sure(net), min(least, key=lambda row: (len(row), row), default=None))
            for row in rows:
                self.assertIs(enough[row], any(set(some) <= set(row) for some in least))

    def test_at_the_bounds(self):
        source = random.Random(110)
        for _ in range(4):
            workers, queues = sloped_net(source, 10, 9, HUGE)
            net = (workers[:5], tuple((name, *sorted(source.sample(workers[:5], 2)), room, room)
                                      for name, _, _, room, _ in queues))
            found = sure_sets(net)
            self.assertEqual(found, sorted(found))
            self.assertTrue(all(never_held(self.with_sure(net, row)) for row in found))
            self.assertIn(fewest_sure(net), found)


if __name__ == "__main__":
    unittest.main()

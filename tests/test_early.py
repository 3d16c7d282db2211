"""What runs can leave, and how early workers can be held."""

import random
import unittest

from joinlags.early import (behind, can_be_left, drops_that_leave, earliest, lasso, least_left, need, price)
from joinlags.errors import NoWorker
from joinlags.judge import never_held
from joinlags.nets import Way, groups, idle, is_drops
from joinlags.runs import Run, held
from checks import check_call, check_error
from choices import all_drops, boxes, left, price_by_words
from ring_sums import cheapest_ways, least_need
from samples import (ALONE, BARE, CYCLE, DOUBLE, FORK, HUGE, TWO_GROUPS, WIDE, calm_net, random_drops, sloped_net,
                     small_nets, wild_net)

NETS = (ALONE, BARE, CYCLE, DOUBLE, FORK, TWO_GROUPS, WIDE)
MANY = 10 ** 42
# In the group of a, b, c somebody can be held, in that of d, e nobody.
HALF = (("a", "b", "c", "d", "e"), (("p", "a", "b", 2, 1), ("q", "a", "b", 3, 3), ("r", "b", "c", 5, 2),
                                    ("s", "d", "e", 4, 3)))


def rounds_left(net, many):
    """The least counts, from the stop of each worker alone: from 0 on, as long as somebody must go on."""
    counts = dict.fromkeys(net[0], 0)
    before = None
    while before != counts:
        before = counts
        counts = {}
        for worker in net[0]:
            stops = [many]
            stops += [max(0, before[start] - notice + 1) for _, start, end, _, notice in net[1] if end == worker]
            stops += [before[end] + room for _, start, end, room, _ in net[1] if start == worker]
            counts[worker] = min(stops)
    return tuple(counts.values())


def formula(net, many, counts):
    """can_be_left and price as what stands in brackets in the document tells them."""
    count = dict(zip(net[0], counts))
    resting = idle(net)
    if max(counts) > many or any(count[worker] > 0 for worker in resting):
        return None
    return price_by_words(net, count, [worker for worker in net[0] if count[worker] < many])


class LeftTest(unittest.TestCase):

    def check_left(self, net, many, counts, fewest):
        self.assertIs(can_be_left(net, many, counts), fewest is not None, (net, many, counts))
        self.assertEqual(price(net, many, counts), fewest, (net, many, counts))
        drops = drops_that_leave(net, many, counts)
        if fewest is None:
            self.assertIsNone(drops)
            return
        self.assertIs(is_drops(net, drops), True)
        self.assertEqual((len(drops), Run(net, drops).settle(many)), (fewest, tuple(counts)))

    def test_edges(self):
        for net in NETS:
            self.check_left(net, 0, (0,) * len(net[0]), 0)
            self.check_left(net, 0, (1,) + (0,) * (len(net[0]) - 1), None)
            moving = tuple(0 if worker in idle(net) else 5 for worker in net[0])
            if net != CYCLE:
                self.check_left(net, 5, moving, 0)
        self.check_left(ALONE, 3, (3,), 0)
        self.check_left(ALONE, 3, (2,), None)
        self.check_left(ALONE, 3, (4,), None)
        self.check_left(BARE, 3, (3, 2), None)

    def test_idle_workers(self):
        self.check_left(CYCLE, 9, (0, 0, 1, 0), 0)
        self.check_left(CYCLE, 1, (0, 0, 1, 0), 0)
        self.check_left(CYCLE, 9, (0, 0, 0, 0), None)
        self.check_left(CYCLE, 9, (1, 1, 1, 1), None)
        self.check_left(CYCLE, 9, (0, 0, 2, 1), None)

    def test_low_and_high(self):
        net = (("a", "b"), (("p", "a", "b", 4, 3),))
        for counts, fewest in (((9, 9), 0), ((9, 8), 1), ((9, 7), 2), ((9, 6), None), ((9, 5), None), ((8, 8), None),
                               ((9, 0), None), ((8, 4), None), ((4, 4), None)):
            self.check_left(net, 9, counts, fewest)
        pair = (("a", "b"), (("p", "a", "b", 4, 3), ("q", "a", "b", 2, 1)))
        for counts, fewest in (((9, 9), 0), ((9, 8), 1), ((9, 7), 2), ((8, 6), 2), ((2, 0), 2), ((1, 0), None)):
            self.check_left(pair, 9, counts, fewest)
        bad = (("a", "b"), (("p", "a", "b", 4, 3), ("q", "a", "b", 1, 1)))
        for counts, fewest in (((9, 9), 0), ((9, 8), 1), ((8, 7), 1), ((1, 0), 1), ((9, 7), None), ((0, 0), None)):
            self.check_left(bad, 9, counts, fewest)

    def test_more_above_the_room(self):
        net = (("a", "b"), (("p", "a", "b", 2, 2), ("q", "a", "b", 4, 4)))
        found = left(net, 6)
        self.assertEqual((found[3, 0], found[5, 2], found[2, 0], found[6, 6]), (4, 4, 2, 0))
        for counts in boxes(net, 6):
            self.check_left(net, 6, counts, found.get(counts))

    def test_what_runs_leave(self):
        source = random.Random(81)
        for many, queues, room, nets in ((3, 3, 3, 60), (4, 3, 2, 40), (7, 2, 3, 30), (2, 4, 2, 40)):
            for net in small_nets(source, nets, 3, queues, room):
                found = left(net, many)
                for counts in boxes(net, many):
                    self.check_left(net, many, counts, found.get(counts))
                self.assertEqual(least_left(net, many), tuple(map(min, zip(*found))))
                self.assertIn(least_left(net, many), found)

    def test_of_two_rows_the_lesser_counts(self):
        source = random.Random(82)
        for net in small_nets(source, 30, 4, 4, 3):
            found = [counts for counts in boxes(net, 4) if can_be_left(net, 4, counts)]
            for _ in range(20):
                one, other = source.choice(found), source.choice(found)
                self.assertIn(tuple(map(min, zip(one, other))), found)

    def test_what_random_drops_leave(self):
        source = random.Random(83)
        for make, room in ((wild_net, 3), (sloped_net, 5), (sloped_net, 12), (calm_net, 30)):
            for _ in range(25):
                net = make(source, source.randint(2, 10), source.randint(1, 14), room)
                many = source.choice((1, 5, 30))
                drops = random_drops(source, net, many)
                counts = Run(net, drops).settle(many)
                self.assertIs(can_be_left(net, many, counts), True)
                self.assertLessEqual(price(net, many, counts), len(drops))
                self.check_left(net, many, counts, formula(net, many, counts))
                self.check_left(net, many, least_left(net, many), formula(net, many, least_left(net, many)))

    def test_at_the_bounds(self):
        net = (("a", "b", "c"), (("p", "a", "b", 12, 12), ("q", "b", "c", 12, 2), ("r", "a", "c", 12, 1)))
        self.check_left(net, 200, (200, 189, 188), 12)
        self.check_left(net, 200, (12, 1, 0), 12)
        self.check_left(net, 200, (200, 200, 200), 0)

    def test_great_numbers(self):
        net = (("a", "b"), (("p", "a", "b", HUGE, HUGE), ("q", "a", "b", HUGE // 2, 1)))
        for counts, fewest in (((MANY, MANY), 0), ((MANY, MANY - 1), 1), ((MANY, MANY - HUGE // 2), HUGE // 2),
                               ((MANY - 5, MANY - 5 - HUGE // 2), HUGE // 2), ((MANY - 5, MANY - 5), None),
                               ((MANY, MANY - HUGE // 2 - 1), None)):
            self.assertEqual((can_be_left(net, MANY, counts), price(net, MANY, counts)), (fewest is not None, fewest))
        self.assertEqual((least_left(net, MANY), earliest(net)), ((HUGE // 2, 0), (HUGE // 2, 0)))

    def test_calls(self):
        for function in (can_be_left, price, drops_that_leave):
            for counts in ((2, 0, 4), (3, 1, 5), (2, 1, 5), (9, 9, 9)):
                check_call(self, function, net=FORK, many=9, counts=counts)
        check_call(self, least_left, net=FORK, many=9)
        check_call(self, earliest, net=FORK)


class LeastTest(unittest.TestCase):

    def test_edges(self):
        for net in NETS + (HALF,):
            self.assertEqual(least_left(net, 0), (0,) * len(net[0]))
        self.assertEqual((least_left(ALONE, MANY), least_left(BARE, 7), least_left(DOUBLE, 7)), ((MANY,), (7, 7), (7, 6)))
        self.assertEqual((least_left(CYCLE, MANY), least_left(HALF, 9)), ((0, 0, 1, 0), (2, 0, 0, 9, 7)))
        self.assertEqual([earliest(net) for net in (ALONE, BARE, DOUBLE, TWO_GROUPS, WIDE)],
                         [(None,) * many for many in (1, 2, 2, 5, 3)])
        self.assertEqual((earliest(CYCLE), earliest(HALF)), ((0, 0, 1, 0), (2, 0, 0, None, None)))

    def test_the_stops_alone(self):
        source = random.Random(84)
        for net in small_nets(source, 100, 6, 8, 4) + [HALF]:
            for many in (1, 3, 8, 40):
                self.assertEqual(least_left(net, many), rounds_left(net, many), (net, many))
        for make, room in ((wild_net, 9), (sloped_net, 9), (calm_net, 90)):
            for _ in range(6):
                net = make(source, 40, 60, room)
                for many in (2, 11, 120):
                    self.assertEqual(least_left(net, many), rounds_left(net, many))

    def test_from_some_many_on_they_agree(self):
        source = random.Random(85)
        for net in small_nets(source, 150, 6, 8, 4) + [HALF, FORK]:
            counts, entries = least_left(net, 500), earliest(net)
            self.assertTrue(all(entry is None or entry == count for entry, count in zip(entries, counts)))
            for group in groups(net):
                found = [entries[net[0].index(worker)] for worker in group]
                # All of a group are held or none is, and the earliest is held at 0.
                self.assertTrue(found == [None] * len(group) or None not in found and min(found) == 0, net)

    def test_least_needs(self):
        source = random.Random(86)
        for net in small_nets(source, 200, 5, 6, 4) + [HALF]:
            self.assertEqual(earliest(net), tuple(least_need(net, worker) for worker in net[0]), net)
            self.assertIs(earliest(net) == (None,) * len(net[0]), never_held(net))

    def test_where_drops_hold(self):
        source = random.Random(87)
        for net in small_nets(source, 60, 3, 3, 2) + [FORK]:
            entries = earliest(net)
            greatest = 4 if len(net[1]) < 3 else 3
            ends = [held(net, drops) for drops in all_drops(net, greatest)]
            for place, entry in enumerate(entries):
                seen = [row[place] for row in ends if row[place] is not None]
                self.assertTrue(all(entry is not None and entry <= number for number in seen), net)
            if None not in entries:
                # The drops that leave the least counts hold everybody just there.
                self.assertEqual(held(net, drops_that_leave(net, 60, entries)), entries)

    def test_large_nets(self):
        source = random.Random(88)
        for _ in range(3):
            net = wild_net(source, 40, 60, HUGE)
            entries = earliest(net)
            self.assertEqual(least_left(net, 10 ** 45), tuple(10 ** 45 if entry is None else entry for entry in entries))
            calm = calm_net(source, 40, 60, HUGE)
            self.assertEqual(earliest(calm), (None,) * 40)
            late = tuple(MANY - behind(calm, worker) for worker in calm[0])
            self.assertEqual(least_left(calm, MANY), late)

    def test_a_long_way_to_a_ring(self):
        workers = tuple(f"w{place:02}" for place in range(40))
        queues = [(f"q{place:02}", workers[place + 1], workers[place], HUGE, 1) for place in range(39)]
        net = (workers, (("a", "w00", "w01", 5, 1),) + tuple(queues))
        self.assertEqual(earliest(net), (0, 0) + tuple(HUGE * place for place in range(1, 39)))
        lasting = (workers, tuple(queues[:1] + [("q00a", "w01", "w00", HUGE, HUGE)] + queues[1:]))
        raised = (workers, tuple((name, start, end, HUGE - 1 if name == "q00" else room, notice)
                                 for name, start, end, room, notice in lasting[1]))
        self.assertEqual(earliest(lasting)[:2], (None, None))
        self.assertEqual(earliest(raised), (0,) + tuple(HUGE * place - 1 for place in range(1, 40)))


class NeedTest(unittest.TestCase):

    def test_ways(self):
        net = (("a", "b", "c"), (("p", "a", "b", 5, 3), ("q", "b", "c", 9, 8), ("r", "c", "b", 2, 2)))
        for start, queues, expected in (("a", "", 0), ("a", "p", 5), ("b", "p", 0), ("b", "pp", 3), ("a", "pp", 5),
                                        ("a", "pqq", 14), ("c", "qqrr", 4), ("c", "qpprq", 0), ("a", "pqr", 16),
                                        ("b", "rqpp", 0), ("b", "pppp", 6), ("c", "qqqqqq", 6)):
            way = Way(net, start, tuple(queues))
            self.assertEqual(need(way), expected, (start, queues))

    def test_a_middle_part_that_costs_most(self):
        net = (("a", "b", "c", "d"), (("p", "b", "a", 9, 4), ("q", "b", "c", 10, 1), ("r", "d", "c", 8, 8)))
        way = Way(net, "a", ("p", "q", "r"))
        self.assertEqual((way.cost(), need(way), need(-way), need(way * 1), need(way * 0)), (0, 7, 17, 7, 0))

    def test_who_begins_with_it_never_falls_below_0(self):
        source = random.Random(89)
        for net in small_nets(source, 40, 4, 6, 9):
            for _ in range(5 if net[1] else 0):
                way = Way(net, source.choice(net[1])[1], ())
                for _ in range(source.randint(0, 12)):
                    way = way + Way(net, way.workers()[-1],
                                    (source.choice([queue[0] for queue in net[1] if way.workers()[-1] in queue[1:3]]),))
                costs = [sum(way.costs()[:many]) for many in range(len(way) + 1)]
                self.assertEqual((way.cost(), need(way)), (costs[-1], max(costs)))

    def test_great_numbers_and_many_steps(self):
        net = (("a", "b"), (("p", "a", "b", HUGE, HUGE), ("q", "a", "b", 7, 1)))
        self.assertEqual(need(Way(net, "a", ("p",) * 1000)), HUGE + 499)
        self.assertEqual(need(Way(net, "a", ("q", "p") * 500)), 7)

    def test_calls(self):
        for way in (Way(FORK, "s", ("r", "q", "p")), Way(FORK, "a", ())):
            check_call(self, need, way=way)


class LassoTest(unittest.TestCase):

    def check_lasso(self, net, worker, entry):
        pair = lasso(net, worker)
        if entry is None:
            self.assertIsNone(pair)
            return
        self.assertIs(type(pair), tuple)
        stem, ring = pair
        self.assertEqual((stem, ring), (Way(net, worker, [step[0] for step in stem.steps()]),
                                        Way(net, stem.workers()[-1], [step[0] for step in ring.steps()])))
        self.assertIs(ring.is_bad(), True)
        self.assertEqual(need(stem + ring), entry)
        self.assertEqual(need(stem + ring * 3), entry)

    def test_all(self):
        source = random.Random(90)
        for net in list(NETS) + [HALF] + small_nets(source, 250, 6, 8, 4):
            for worker, entry in zip(net[0], earliest(net)):
                self.check_lasso(net, worker, entry)

    def test_large_nets(self):
        source = random.Random(91)
        for make in (wild_net, sloped_net):
            net = make(source, 40, 60, HUGE)
            for worker, entry in list(zip(net[0], earliest(net)))[::7]:
                self.check_lasso(net, worker, entry)

    def test_no_worker(self):
        for net in (FORK, WIDE, CYCLE):
            for function in (lasso, behind):
                check_error(self, NoWorker, {"worker": "p"}, lambda: function(net, "p"))

    def test_calls(self):
        for net in (FORK, WIDE):
            for worker in net[0]:
                check_call(self, lasso, net=net, worker=worker)
                check_call(self, behind, net=net, worker=worker)


class BehindTest(unittest.TestCase):

    def test_edges(self):
        self.assertEqual((behind(ALONE, "z"), behind(BARE, "a"), behind(DOUBLE, "a"), behind(DOUBLE, "b")), (0, 0, 0, 1))
        self.assertEqual([behind(CYCLE, worker) for worker in CYCLE[0]], [None] * 4)
        self.assertEqual([behind(HALF, worker) for worker in HALF[0]], [None, None, None, 0, 2])

    def test_what_ways_cost(self):
        source = random.Random(92)
        for net in small_nets(source, 200, 6, 7, 6):
            entries = earliest(net)
            for worker, entry in zip(net[0], entries):
                expected = -min(cheapest_ways(net, worker).values()) if entry is None else None
                self.assertEqual(behind(net, worker), expected, net)

    def test_what_can_be_left(self):
        source = random.Random(93)
        for net in small_nets(source, 60, 4, 4, 3) + [WIDE, HALF]:
            for group in groups(net):
                late = [behind(net, worker) for worker in group]
                if None in late:
                    self.assertEqual(late, [None] * len(late))
                    continue
                for many in range(max(late) + 6):
                    counts = dict(zip(net[0], least_left(net, many)))
                    gaps = [many - counts[worker] for worker in group]
                    self.assertTrue(all(gap <= most for gap, most in zip(gaps, late)))
                    if many >= max(late):
                        self.assertEqual(gaps, late)


if __name__ == "__main__":
    unittest.main()

"""Whether anybody can ever be held, and what shows it."""

import itertools
import random
import unittest

from joinlags.errors import NoFit, NoWorker
from joinlags.judge import (bad_ring, cheapest_ring, fewest_drops, holding, is_bad_ring, lag_room, lags, lags_in,
                            least_parts, least_way, never_held, shows_never, sprung)
from joinlags.nets import Way, idle, is_drops, rings, slack
from joinlags.runs import Run, closes, held
from checks import check_call, check_error
from choices import all_drops
from ring_sums import bad_rings, cheapest_ways, cost_of, price_of, start_of, turns
from samples import (ALONE, BARE, CYCLE, DOUBLE, FORK, HUGE, TWO_GROUPS, WIDE, calm_net, listed, random_drops,
                     sloped_net, small_nets, wild_net)
from test_nets import STRANGE, nested

NETS = (ALONE, BARE, CYCLE, DOUBLE, FORK, TWO_GROUPS, WIDE)
RING = (("q", "against"), ("p", "against"), ("r", "along"))
# Two queues between the same workers: a ring of cost just 0, and one of cost just 1.
ZERO = (("a", "b"), (("p", "a", "b", 2, 1), ("q", "a", "b", 3, 3)))
ONE = (("a", "b"), (("p", "a", "b", 3, 1), ("q", "a", "b", 3, 3)))
GAP = 10 ** 42


def fits(net, parts, tuple_of_lags):
    """The rule of lags and lags_in."""
    lag = dict(zip(net[0], tuple_of_lags))
    return all((notice - 1) * parts < lag[start] - lag[end] < room * parts
               for _, start, end, room, notice in net[1])


def can_differ(net, parts, worker, other, gap):
    """Whether there are lags in so many parts with this gap between two workers, by Floyd's way."""
    bound = {(place, place): 0 for place in net[0]}

    def keep(first, second, weight):
        bound[first, second] = min(weight, bound.get((first, second), weight))

    for _, start, end, room, notice in net[1]:
        keep(start, end, room * parts - 1)
        keep(end, start, -(notice - 1) * parts - 1)
    keep(worker, other, gap)
    keep(other, worker, -gap)
    for middle, first, second in itertools.product(net[0], repeat=3):
        if (first, middle) in bound and (middle, second) in bound:
            keep(first, second, bound[first, middle] + bound[middle, second])
    return all(bound[place, place] >= 0 for place in net[0])


class JudgeCase(unittest.TestCase):

    def check_lags(self, net, parts, found):
        self.assertIs(type(found), tuple)
        self.assertEqual([type(lag) for lag in found], [int] * len(net[0]))
        self.assertTrue(fits(net, parts, found), net)

    def check_bad(self, net, ring):
        """It is a bad ring, as the document and as is_bad_ring see it."""
        way = Way(net, start_of(net, ring), [step[0] for step in ring])
        self.assertEqual(way.steps(), ring)
        self.assertIs(way.is_bad(), True)
        self.assertIs(is_bad_ring(net, ring), True)

    def check_judged(self, net):
        """Either there are lags or there is a bad ring; each shows what it should."""
        found = never_held(net)
        self.assertIs(type(found), bool)
        if found:
            self.check_lags(net, len(net[0]), lags(net))
            self.assertIs(shows_never(net, lags(net)), True)
            self.assertIsNone(bad_ring(net))
        else:
            self.assertIsNone(lags(net))
            self.check_bad(net, bad_ring(net))
        return found


class NeverHeldTest(JudgeCase):

    def test_edges(self):
        for net, expected in ((ALONE, True), (BARE, True), (CYCLE, False), (DOUBLE, True), (FORK, False),
                              (TWO_GROUPS, True), (WIDE, True), (ZERO, False), (ONE, True)):
            self.assertIs(self.check_judged(net), expected, net)

    def test_one_group_of_several(self):
        net = (("a", "b", "c", "d"), (("p", "a", "b", 2, 1), ("q", "a", "b", 3, 3), ("r", "c", "d", 1, 1)))
        self.assertIs(self.check_judged(net), False)
        self.assertIsNone(least_way(net, "c", "d"))

    def test_great_rooms(self):
        for room, expected in ((HUGE - 1, False), (HUGE, True)):
            net = (("a", "b", "c"), (("p", "a", "b", HUGE, HUGE - 5), ("q", "b", "c", HUGE, 6), ("r", "a", "c", room, 1)))
            self.assertIs(self.check_judged(net), expected)

    def test_what_rings_cost(self):
        source = random.Random(61)
        for net in small_nets(source, 300, 6, 8, 4):
            self.assertIs(self.check_judged(net), bad_rings(net) == [], net)
            self.assertIs(never_held(net), slack(net) is None or slack(net) > 0)

    def test_what_runs_do(self):
        source = random.Random(62)
        for net in [ZERO, ONE, DOUBLE] + small_nets(source, 60, 3, 3, 2):
            anybody = any(set(held(net, drops)) != {None} for drops in all_drops(net, 4 if len(net[1]) < 3 else 3))
            # Whoever can be held can be so by as few drops as the rooms of a ring, with no greater numbers.
            if fewest_drops(net) is None or fewest_drops(net) <= 3:
                self.assertIs(never_held(net), not anybody, net)

    def test_large_nets(self):
        source = random.Random(63)
        for _ in range(4):
            self.assertIs(self.check_judged(calm_net(source, 40, 60, HUGE)), True)
            self.assertIs(self.check_judged(wild_net(source, 40, 60, HUGE)), False)
            self.check_judged(sloped_net(source, 40, 60, 12))

    def test_a_long_ring_of_just_0_and_just_1(self):
        for last, expected in ((41, False), (42, True)):
            workers = tuple(f"w{place:02}" for place in range(40))
            queues = [(f"q{place:02}", workers[place], workers[place + 1], HUGE, 2) for place in range(39)]
            net = (workers, (("long", "w00", "w39", last - 2, 1),) + tuple(queues))
            self.assertIs(self.check_judged(net), expected)

    def test_calls(self):
        for net in NETS:
            for function in (never_held, lags, least_parts, bad_ring, cheapest_ring, fewest_drops, holding):
                check_call(self, function, net=net)


class ShowsNeverTest(JudgeCase):

    def test_tuples_and_neighbours_of_them(self):
        for net in (WIDE, ONE, BARE, ALONE, DOUBLE, FORK):
            span = range(-1, 16) if len(net[0]) == 3 else range(-10, 11)
            for thing in itertools.product(span, repeat=len(net[0])):
                self.assertIs(shows_never(net, thing), fits(net, len(net[0]), thing), (net, thing))

    def test_each_limit(self):
        net = (("a", "b"), (("p", "a", "b", 5, 3),))
        self.assertEqual([gap for gap in range(-12, 15) if shows_never(net, (gap, 0))], [5, 6, 7, 8, 9])
        self.assertEqual([gap for gap in range(-12, 15) if shows_never(net, (GAP, GAP - gap))], [5, 6, 7, 8, 9])

    def test_other_things(self):
        self.assertIs(shows_never(WIDE, (7, 0, 14)), True)
        self.assertIs(shows_never(listed(WIDE), (7, 0, 14)), True)
        self.assertIs(shows_never(net=WIDE, thing=(-93, -100, -86)), True)
        for thing in ([7, 0, 14], (7, 0), (7, 0, 14, 0), (), ((7, 0, 14),), (7, False, 14), (7, None, 14),
                      ("7", "0", "14"), (7, (0,), 14), (7, [0], 14), (7, 0, [14]), (7, nested(11), 14), "abc",
                      (7, 0, 13), (7, 0, 15), (6, 0, 14), (7, 0, -14), ((7, 0), 14), None, 7, True):
            self.assertIs(shows_never(WIDE, thing), False, thing)
        for thing in STRANGE:
            self.assertIs(shows_never(WIDE, thing), False, thing)
        one = (("a", "b"), (("p", "a", "b", 1, 1),))
        self.assertEqual([shows_never(one, thing) for thing in ((1, 0), (True, 0), (1, False), (True, False))],
                         [True, False, False, False])

    def test_no_queue(self):
        self.assertIs(shows_never(ALONE, (GAP,)), True)
        for thing in ((True,), (None,), [5], (5, 5), (), 5, ("5",), ((5,),)):
            self.assertIs(shows_never(ALONE, thing), False, thing)

    def test_beyond_the_bounds(self):
        self.assertIs(shows_never(BARE, (10 ** 300, -10 ** 300)), True)
        self.assertIs(shows_never(WIDE, (10 ** 300, 0, 14)), False)
        self.assertIs(shows_never(WIDE, (0,) * 5000), False)


class PartsTest(JudgeCase):

    def test_edges(self):
        self.assertEqual((lags_in(ALONE, 1), least_parts(ALONE), least_parts(BARE)), ((0,), 1, 1))
        self.assertEqual([lags_in(WIDE, parts) is None for parts in (1, 2, 3, 4)], [True, True, False, False])
        self.assertIsNone(lags_in(FORK, GAP))
        self.assertEqual([least_parts(net) for net in (CYCLE, FORK, ZERO, WIDE, ONE, DOUBLE, TWO_GROUPS)],
                         [None, None, None, 3, 2, 2, 2])
        # Between 3 and 4 there is no whole number, though there is no ring.
        self.assertEqual(least_parts((("a", "b"), (("p", "a", "b", 4, 4),))), 2)
        self.check_lags(WIDE, GAP, lags_in(WIDE, GAP))

    def test_calls(self):
        for parts in (1, 3):
            check_call(self, lags_in, net=WIDE, parts=parts)

    def test_the_least(self):
        source = random.Random(64)
        for net in small_nets(source, 250, 5, 6, 5):
            least = least_parts(net)
            if bad_rings(net):
                self.assertIsNone(least)
                self.assertEqual([lags_in(net, parts) for parts in (1, 2, 5, 40)], [None] * 4)
                continue
            quotients = [(len(ring), cost_of(net, ring)) for ring in rings(net)]
            quotients += [(2, room - notice + 1) for _, _, _, room, notice in net[1]]
            self.assertEqual(least, max([1] + [-(-above // below) for above, below in quotients]), net)
            for parts in range(1, 9):
                found = lags_in(net, parts)
                self.assertIs(found is not None, parts >= least, net)
                if found is not None:
                    self.check_lags(net, parts, found)

    def test_no_lags_at_all_are_missed(self):
        for net in (WIDE, FORK, ZERO, ONE):
            for parts in (1, 2, 3):
                some = any(fits(net, parts, (0,) + row) for row in
                           itertools.product(range(-16, 17), repeat=len(net[0]) - 1))
                self.assertIs(lags_in(net, parts) is not None, some, (net, parts))

    def test_large_nets(self):
        source = random.Random(65)
        for _ in range(2):
            net = calm_net(source, 40, 60, HUGE)
            least = least_parts(net)
            self.check_lags(net, least, lags_in(net, least))
            self.assertTrue(least == 1 or lags_in(net, least - 1) is None)
            self.check_lags(net, GAP, lags_in(net, GAP))


class RoomTest(JudgeCase):

    def test_edges(self):
        self.assertEqual((lag_room(ALONE, "z", "z"), lag_room(BARE, "a", "b")), ((0, 0), (None, None)))
        self.assertEqual((lag_room(FORK, "s", "s"), lag_room(FORK, "s", "d"), lag_room(CYCLE, "i", "t")), (None,) * 3)
        self.assertEqual((lag_room(TWO_GROUPS, "a", "b"), lag_room(TWO_GROUPS, "b", "e")), ((None, None), (1, 2)))
        self.assertEqual((lag_room(ONE, "a", "b"), lag_room(ONE, "b", "a")), ((2, 3), (-3, -2)))
        self.assertEqual((least_way(ALONE, "z", "z"), least_way(FORK, "s", "s"), least_way(BARE, "a", "b")),
                         ((), None, None))
        self.assertIn(least_way(ONE, "a", "b"), ((("p", "along"),), (("q", "along"),)))
        self.assertEqual(least_way(ONE, "b", "a"), (("q", "against"),))

    def test_no_worker(self):
        for function in (lag_room, least_way):
            for net in (FORK, WIDE):
                check_error(self, NoWorker, {"worker": "x"}, lambda: function(net, "x", "y"))
                check_error(self, NoWorker, {"worker": "y"}, lambda: function(net, "a", "y"))
                check_error(self, NoWorker, {"worker": "p"}, lambda: function(net, "p", "p"))

    def test_calls(self):
        for function in (lag_room, least_way):
            for net in (FORK, WIDE):
                check_call(self, function, net=net, worker="d", other="s")

    def check_way(self, net, worker, other, cost):
        steps = least_way(net, worker, other)
        if cost is None:
            self.assertIsNone(steps)
            return
        way = Way(net, worker, [step[0] for step in steps])
        self.assertEqual((way.steps(), way.workers()[-1], way.cost()), (steps, other, cost))

    def check_room(self, net):
        never = bad_rings(net) == []
        for worker in net[0]:
            costs = cheapest_ways(net, worker)
            for other in net[0]:
                if not never:
                    self.assertIsNone(lag_room(net, worker, other))
                    self.assertIsNone(least_way(net, worker, other))
                    continue
                room = (-cheapest_ways(net, other)[worker], costs[other]) if other in costs else (None, None)
                self.assertEqual(lag_room(net, worker, other), room)
                self.check_way(net, worker, other, costs.get(other))

    def test_what_ways_cost(self):
        source = random.Random(66)
        for net in small_nets(source, 120, 5, 6, 6):
            self.check_room(net)

    def test_what_lags_there_are(self):
        source = random.Random(67)
        nets = [net for net in small_nets(source, 150, 4, 4, 4) + [WIDE, ONE] if never_held(net)]
        for net in nets[:60] + nets[-2:]:
            worker, other = net[0][0], net[0][-1]
            low, high = lag_room(net, worker, other)
            for parts in (1, 2, 3, 5):
                for gap in range(-25, 26):
                    within = low is None or low * parts < gap < high * parts
                    self.assertTrue(within or not can_differ(net, parts, worker, other, gap), net)
                    # The same fraction, written so finely that all others have room beside it.
                    self.assertIs(can_differ(net, 10 * parts, worker, other, 10 * gap), within, net)

    def test_long_ways(self):
        workers = tuple(f"w{place:02}" for place in range(40))
        net = (workers, tuple((f"q{place:02}", workers[place], workers[place + 1], 5, 2) for place in range(39)))
        back = (workers, tuple((name, end, start, 5, 2) for name, start, end, _, _ in net[1]))
        for chain, room in ((net, (39, 195)), (back, (-195, -39))):
            self.assertEqual(lag_room(chain, "w00", "w39"), room)
            self.assertEqual(lag_room(chain, "w39", "w00"), (-room[1], -room[0]))
            self.check_way(chain, "w00", "w39", room[1])
            self.check_way(chain, "w39", "w00", -room[0])

    def test_large_nets(self):
        source = random.Random(68)
        net = calm_net(source, 40, 60, HUGE)
        told = lags_in(net, 10 ** 42)
        for worker in ("w00", "w17"):
            for other in net[0]:
                room = lag_room(net, worker, other)
                self.check_way(net, worker, other, room[1] if worker != other else 0)
                if worker != other and room[0] is not None:
                    gap = told[net[0].index(worker)] - told[net[0].index(other)]
                    self.assertTrue(room[0] * 10 ** 42 < gap < room[1] * 10 ** 42)


class RingTest(JudgeCase):

    def test_a_ring_begun_at_any_of_its_workers(self):
        for turn in turns(RING):
            self.assertIs(is_bad_ring(FORK, turn), True)
            self.assertIs(is_bad_ring(listed(FORK), turn), True)
            self.assertIs(is_bad_ring(WIDE, turn), False)
        self.assertIs(is_bad_ring(net=CYCLE, thing=(("a", "against"), ("b", "against"))), True)
        self.assertIs(is_bad_ring(CYCLE, (("a", "along"), ("b", "along"))), False)

    def test_a_cost_of_just_0_and_just_1(self):
        ring = (("p", "along"), ("q", "against"))
        self.assertEqual((cost_of(ZERO, ring), cost_of(ONE, ring)), (0, 1))
        self.assertEqual((is_bad_ring(ZERO, ring), is_bad_ring(ONE, ring)), (True, False))

    def test_each_clause_broken(self):
        other_way = (("r", "against"), ("p", "along"), ("q", "along"))
        for thing in ((), RING[1:], RING[:1], RING + RING, RING + RING[:1], RING[::-1], other_way, list(RING),
                      (list(RING[0]),) + RING[1:], RING[:2] + (["r", "along"],), ([],) + RING[1:],
                      (("q",),) + RING[1:], (("q", "against", "against"),) + RING[1:], ((),) + RING[1:],
                      (("x", "against"),) + RING[1:], (("a", "against"),) + RING[1:], (("q", "along"),) + RING[1:],
                      (("q", "back"),) + RING[1:], (("q", ""),) + RING[1:], (("q", "Against"),) + RING[1:],
                      RING[:2] + (("r", "against"),), (("p", "against"), ("p", "along")),
                      (("p", "along"), ("p", "against")), (("q", "against"), ("p", "against"), ("p", "along")) + RING[1:],
                      ("q", "against"), "qpr", ("qa", "pa", "ra"), (RING,), ((RING[0],),) + RING[1:]):
            self.assertIs(is_bad_ring(FORK, thing), False, thing)

    def test_other_kinds_at_any_depth(self):
        for strange in STRANGE + [nested(10), [nested(9)], ("q", "against", None)]:
            self.assertIs(is_bad_ring(FORK, strange), False, strange)
            for place in range(3):
                self.assertIs(is_bad_ring(FORK, RING[:place] + (strange,) + RING[place + 1:]), False, strange)
                for step in ((strange, RING[place][1]), (RING[place][0], strange)):
                    self.assertIs(is_bad_ring(FORK, RING[:place] + (step,) + RING[place + 1:]), False, step)

    def test_rings_that_meet_a_worker_twice(self):
        net = (("a", "b", "c"), (("p", "a", "b", 1, 1), ("q", "a", "b", 9, 9), ("r", "b", "c", 1, 1),
                                 ("s", "b", "c", 9, 9)))
        self.assertIs(is_bad_ring(net, (("p", "along"), ("q", "against"))), True)
        self.assertIs(is_bad_ring(net, (("p", "along"), ("r", "along"), ("s", "against"), ("q", "against"))), False)
        self.assertIs(is_bad_ring(net, (("p", "along"), ("q", "against")) * 2), False)
        self.assertIs(is_bad_ring(net, (("p", "along"), ("q", "against"), ("q", "along"), ("q", "against"))), False)

    def test_all_rows_of_steps(self):
        source = random.Random(69)
        for net in [FORK, ZERO, CYCLE] + small_nets(source, 10, 3, 3, 3):
            bad = {turn for ring in bad_rings(net) for turn in turns(ring)}
            steps = [(queue[0], side) for queue in net[1] for side in ("along", "against")]
            for many in range(5):
                for thing in itertools.product(steps, repeat=many):
                    self.assertIs(is_bad_ring(net, thing), thing in bad, (net, thing))

    def test_beyond_the_bounds(self):
        self.assertIs(is_bad_ring(FORK, RING * 2000), False)
        workers = tuple(f"w{place:03}" for place in range(300))
        net = (workers, tuple((f"q{place:03}", workers[place], workers[(place + 1) % 300], 10 ** 60, 1)
                              for place in range(300)))
        ring = tuple((queue[0], "against") for queue in net[1][::-1])
        self.assertEqual((is_bad_ring(net, ring), is_bad_ring(net, ring[1:])), (True, False))

    def test_the_cheapest(self):
        self.assertEqual([cheapest_ring(net) for net in (ALONE, BARE, WIDE, ONE, TWO_GROUPS)], [None] * 5)
        self.assertEqual([fewest_drops(net) for net in (ALONE, BARE, WIDE, ONE, TWO_GROUPS)], [None] * 5)
        self.assertEqual((fewest_drops(CYCLE), fewest_drops(ZERO), fewest_drops(FORK)), (0, 2, 4))
        source = random.Random(70)
        for net in small_nets(source, 200, 6, 8, 5):
            prices = [price_of(net, ring) for ring in bad_rings(net)]
            ring, fewest = cheapest_ring(net), fewest_drops(net)
            self.assertEqual(fewest, min(prices, default=None))
            self.assertIs(fewest == 0, idle(net) != ())
            if ring is None:
                self.assertEqual(prices, [])
            else:
                self.check_bad(net, ring)
                self.assertEqual(price_of(net, ring), fewest)

    def test_at_the_bounds(self):
        source = random.Random(71)
        for make in (wild_net, sloped_net):
            for _ in range(5):
                net = make(source, 10, 14, HUGE)
                ring = cheapest_ring(net)
                if ring is not None:
                    self.check_bad(net, ring)
                    self.assertEqual(fewest_drops(net), price_of(net, ring))


class SprungTest(JudgeCase):

    def check_sprung(self, net, ring, first):
        drops, ends = sprung(net, ring, first)
        self.assertIs(is_drops(net, drops), True)
        self.assertEqual(len(drops), price_of(net, ring))
        self.assertTrue(all(number > first for _, number in drops))
        on_ring = set(Way(net, start_of(net, ring), [step[0] for step in ring]).workers())
        self.assertEqual({worker for worker, end in zip(net[0], ends) if end is not None}, on_ring)
        self.assertEqual((type(ends), len(ends)), (tuple, len(net[0])))
        self.assertEqual(min(end for end in ends if end is not None), first)
        end_of = dict(zip(net[0], ends))
        expected = []
        for name, side in ring:
            _, start, end, room, notice = [queue for queue in net[1] if queue[0] == name][0]
            lead = end_of[start] - end_of[end]
            self.assertTrue(lead == room if side == "along" else 0 <= lead < notice)
            if side == "against":
                expected += [(name, number) for number in range(end_of[end] + 1, end_of[start] + 1)]
        self.assertEqual(list(drops), sorted(expected))
        return drops, ends

    def check_nobody_beyond(self, net, drops, ends, first, source):
        """With these drops and any whose numbers are below first nobody comes beyond the ends."""
        before = tuple(pair for pair in random_drops(source, net, max(0, first - 1)) if pair[1] < first)
        for some in ((), before):
            together = tuple(sorted(drops + some))
            self.assertIs(closes(net, together, ends), True)
            for many in (first + 3, 60):
                counts = Run(net, together).settle(many)
                self.assertTrue(all(end is None or count <= end for count, end in zip(counts, ends)))

    def test_edges(self):
        self.assertEqual(sprung(ZERO, (("p", "along"), ("q", "against")), 0), ((("q", 1), ("q", 2)), (2, 0)))
        self.assertEqual(sprung(ZERO, [["q", "against"], ["p", "along"]], 7), ((("q", 8), ("q", 9)), (9, 7)))
        self.assertEqual(sprung(CYCLE, (("a", "against"), ("b", "against")), 3), ((), (3, 3, None, None)))

    def test_no_fit(self):
        for net, ring in ((WIDE, RING), (FORK, RING[1:]), (FORK, ()), (FORK, RING[::-1]), (FORK, RING + RING),
                          (ONE, (("p", "along"), ("q", "against"))), (FORK, (("x", "along"), ("q", "against"))),
                          (FORK, (("q", "along"), ("q", "against"))), (BARE, RING), (FORK, RING[:2] + (("r", "back"),))):
            check_error(self, NoFit, {}, lambda: sprung(net, ring, 0))
            check_error(self, NoFit, {}, lambda: sprung(listed(net), listed(ring), 0))

    def test_calls(self):
        for turn in turns(RING):
            check_call(self, sprung, net=FORK, ring=turn, first=4)

    def test_all_bad_rings(self):
        source = random.Random(72)
        for net in [FORK, ZERO, CYCLE] + small_nets(source, 150, 5, 7, 5):
            bad = bad_rings(net)
            fewest = min([price_of(net, ring) for ring in bad], default=None)
            for ring in bad:
                turn = source.choice(turns(ring))
                for first in (0, 1, 6):
                    drops, ends = self.check_sprung(net, turn, first)
                    self.check_nobody_beyond(net, drops, ends, first, source)
                    if first == 0 and price_of(net, ring) == fewest:
                        told = held(net, drops)
                        self.assertTrue(all(end is None or end == at for end, at in zip(ends, told)), (net, turn))

    def test_every_net_that_can_be_held_is_so_after_every_run(self):
        source = random.Random(73)
        for net in [FORK, ZERO] + small_nets(source, 40, 4, 5, 3):
            ring = bad_ring(net)
            if ring is not None:
                run = Run(net, random_drops(source, net, 9))
                many = max(run.settle(9))
                drops, ends = sprung(net, ring, many + 1)
                before = tuple(pair for pair in random_drops(source, net, many) if pair[1] <= many)
                self.assertNotEqual(set(held(net, tuple(sorted(before + drops)))), {None})

    def test_at_the_bounds(self):
        net = (("a", "b", "c"), (("p", "a", "b", 12, 12), ("q", "b", "c", 12, 2), ("r", "a", "c", 12, 1)))
        drops, ends = self.check_sprung(net, (("r", "along"), ("q", "against"), ("p", "against")), 188)
        self.assertEqual((ends, len(drops)), ((200, 189, 188), 12))


class HoldingTest(JudgeCase):

    def check_holding(self, net):
        drops = holding(net)
        fewest = fewest_drops(net)
        if fewest is None:
            self.assertIsNone(drops)
            return
        self.assertIs(is_drops(net, drops), True)
        self.assertEqual(len(drops), fewest)
        self.assertTrue(all(number <= fewest for _, number in drops))
        self.assertNotEqual(set(held(net, drops)), {None})

    def test_edges(self):
        self.assertEqual([holding(net) for net in (ALONE, BARE, WIDE, ONE)], [None] * 4)
        self.assertEqual((holding(CYCLE), holding(ZERO)), ((), (("q", 1), ("q", 2))))
        for net in NETS + (ZERO, ONE):
            self.check_holding(net)

    def test_they_hold_somebody(self):
        source = random.Random(74)
        for net in small_nets(source, 150, 6, 8, 5):
            self.check_holding(net)
        for make in (wild_net, sloped_net):
            for _ in range(10):
                self.check_holding(make(source, 10, 14, 12))

    def test_fewer_hold_nobody(self):
        source = random.Random(75)
        for net in [ZERO, ONE, CYCLE] + small_nets(source, 60, 3, 3, 3):
            fewest = fewest_drops(net)
            for drops in all_drops(net, 4 if len(net[1]) < 3 else 3):
                if fewest is None or len(drops) < fewest:
                    self.assertEqual(set(held(net, drops)), {None}, (net, drops))


if __name__ == "__main__":
    unittest.main()

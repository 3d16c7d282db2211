"""Where workers stop if some of them die."""

import random
import unittest

from joinlags.early import can_be_left, least_left, price
from joinlags.errors import NoWorker
from joinlags.judge import never_held
from joinlags.nets import groups, idle, is_drops
from joinlags.runs import held
from joinlags.stops import can_stop, first_stops, first_way, is_deaths, last_stops, stop_drops
from joinlags.tables import table_of
from checks import check_call, check_error
from choices import all_drops, boxes, price_by_words
from ring_sums import cheapest_ways
from samples import (ALONE, BARE, CYCLE, DOUBLE, FORK, HUGE, TWO_GROUPS, WIDE, calm_net, listed, many_workers,
                     random_deaths, random_drops, small_nets, wild_net)
from test_nets import STRANGE, nested

MANY = 10 ** 42


def formula(net, deaths, ends):
    """How many DROPS are needed for these ENDS, as what stands in brackets in the document tells it."""
    count = dict(zip(net[0], ends))
    dying = dict(deaths)
    resting = idle(net)
    for group in groups(net):
        empty = {count[worker] is None for worker in group}
        if len(empty) > 1 or (True in empty and any(worker in dying or worker in resting for worker in group)):
            return None
    if any(count[worker] != 0 for worker in resting):
        return None
    if any(count[worker] > number for worker, number in deaths):
        return None
    return price_by_words(net, count, [worker for worker in net[0] if count[worker] is not None
                                       and dying.get(worker) != count[worker]])


def stops_by_drops(net, deaths, greatest):
    """A dict from all ENDS with these DEATHS and DROPS up to the greatest number to the fewest DROPS."""
    found = {}
    for drops in all_drops(net, greatest):
        found.setdefault(held(net, drops, deaths=deaths), len(drops))
    return found


class IsDeathsTest(unittest.TestCase):

    def test_deaths(self):
        for deaths in ((), (("a", 0),), (("d", 5),), (("a", 3), ("d", 3)), (("a", 0), ("d", 0), ("s", HUGE ** 2))):
            self.assertIs(is_deaths(FORK, deaths), True)
            self.assertIs(is_deaths(listed(FORK), deaths), True)
        self.assertIs(is_deaths(net=FORK, thing=(("a", 0),)), True)

    def test_no_deaths(self):
        for thing in ((("x", 0),), (("p", 0),), (("a", -1),), (("a", None),), (("a", True),), (("a", False),),
                      (("a", "0"),), (("a", (0,)),), (("a",),), (("a", 1, 2),), (["a", 1],), [("a", 1)], [], ("a", 1),
                      (("d", 1), ("a", 1)), (("a", 1), ("a", 1)), (("a", 1), ("a", 2)), (("a", 2), ("a", 1)),
                      ((("a",), 1),), ((["a"], 1),), ((None, 1),), ((True, 1),), ((1, "a"),), (("", 1),),
                      (("a", nested(9)),), ((nested(9), 1),), ("a1", "d1"), (("a", 1), None), (("a", 1), "d2"),
                      (("a", 1), ("d", 1), ("x", 1)), (("a", 1), ["d", 1]), "a1", (("A", 1),)):
            self.assertIs(is_deaths(FORK, thing), False, thing)

    def test_strange_values(self):
        for thing in STRANGE:
            self.assertIs(is_deaths(FORK, thing), thing == (), thing)
            self.assertIs(is_deaths(FORK, (thing,)), False, thing)
            self.assertIs(is_deaths(FORK, ((thing, 1),)), thing == "a", thing)


class StopTest(unittest.TestCase):

    def check_stop(self, net, deaths, ends):
        fewest = formula(net, deaths, ends)
        self.assertIs(can_stop(net, deaths, ends), fewest is not None, (net, deaths, ends))
        drops = stop_drops(net, deaths, ends)
        if fewest is None:
            self.assertIsNone(drops)
            return
        self.assertIs(is_drops(net, drops), True)
        self.assertEqual(len(drops), fewest, (net, deaths, ends))
        self.assertEqual(held(net, drops, deaths=deaths), tuple(ends), (net, deaths, ends))

    def test_all_drops_on_small_nets(self):
        source = random.Random(161)
        compared = 0
        for net in small_nets(source, 40, 3, 3, 2):
            if len(net[1]) > 3:
                continue
            greatest = 4 if len(net[1]) < 3 else 3
            for deaths in ((), random_deaths(source, net, 3), ((source.choice(net[0]), source.randint(0, 3)),)):
                found = stops_by_drops(net, deaths, greatest)
                for ends, fewest in found.items():
                    self.check_stop(net, deaths, ends)
                    self.assertLessEqual(len(stop_drops(net, deaths, ends)), fewest)
                    if max([number for _, number in stop_drops(net, deaths, ends)], default=0) <= greatest:
                        self.assertEqual(len(stop_drops(net, deaths, ends)), fewest)
                    compared += 1
        self.assertGreater(compared, 250)

    def test_first_and_last_of_all_drops(self):
        source = random.Random(162)
        compared = 0
        for net in small_nets(source, 120, 3, 3, 2):
            if not never_held(net) or len(net[1]) > 2:
                continue
            deaths = random_deaths(source, net, 2) or ((net[0][0], 1),)
            found = list(stops_by_drops(net, deaths, 6 if len(net[1]) == 1 else 5))
            first, last = first_stops(net, deaths), last_stops(net, deaths)
            if max([number for number in last if number is not None]) <= 5:
                self.assertEqual(first, tuple(min(column, default=None) if None not in column else None
                                              for column in zip(*found)), (net, deaths))
                self.assertEqual(last, tuple(max(column) if None not in column else None for column in zip(*found)))
                compared += 1
        self.assertGreater(compared, 60)

    def test_all_rows_of_numbers(self):
        source = random.Random(163)
        for net in [CYCLE, TWO_GROUPS, DOUBLE] + small_nets(source, 25, 3, 3, 3):
            for deaths in ((), random_deaths(source, net, 3)):
                for ends in boxes(net, 3 if len(net[0]) > 3 else 5):
                    ends = tuple(None if number == 3 else number for number in ends)
                    self.check_stop(net, deaths, ends)

    def test_larger_nets(self):
        source = random.Random(164)
        for _ in range(150):
            net = wild_net(source, 6, 8, 4)
            deaths = random_deaths(source, net, 9)
            self.check_stop(net, deaths, held(net, random_drops(source, net, 6), deaths=deaths))

    def test_nobody_dies(self):
        for net in (ALONE, BARE, DOUBLE, FORK, TWO_GROUPS, WIDE):
            ends = (None,) * len(net[0])
            self.assertEqual((can_stop(net, (), ends), stop_drops(net, (), ends)), (True, ()))
        self.assertIs(can_stop(CYCLE, (), (None,) * 4), False)
        self.assertIs(can_stop(CYCLE, (), (0, 0, 1, 0)), True)
        self.assertEqual(len(stop_drops(FORK, (), (2, 0, 4))), 4)
        self.assertEqual(len(stop_drops(FORK, (), (7, 5, 9))), 4)

    def test_idle_workers_stop_at_0(self):
        net = (("i", "j", "t", "u"), (("a", "i", "j", 1, 1), ("b", "j", "i", 1, 1), ("c", "j", "t", 1, 1)))
        for ends, expected in (((0, 0, 0, None), True), ((0, 0, 0, 0), False), ((1, 1, 1, None), False),
                               ((None,) * 4, False), ((0, 0, None, None), False), ((0, 0, 1, None), False)):
            self.assertIs(can_stop(net, (), ends), expected, ends)
        self.assertIs(can_stop(net, (("u", 7),), (0, 0, 0, 7)), True)
        self.assertIs(can_stop(net, (("i", 7),), (0, 0, 0, None)), True)

    def test_ends_of_groups(self):
        one, both = (("a", 2),), (("a", 2), ("d", 4))
        for deaths, ends, expected in (
                ((), (None,) * 5, True), (one, (2, None, 3, None, None), True), (one, (2, None, None, None, None), False),
                (one, (None, None, 3, None, None), False), (one, (None,) * 5, False),
                (one, (2, 3, 3, None, None), False), (one, (2, None, 3, 0, None), False),
                ((("d", 0),), (None, None, None, 0, None), True), (both, (2, None, 3, 4, None), True),
                (both, (2, None, 3, 3, None), False), (both, (2, None, 3, 5, None), False),
                (one, (3, None, 4, None, None), False), (one, (1, None, 2, None, None), False),
                (one, (2, None, 2, None, None), False), (one, (2, None, 4, None, None), False)):
            self.assertIs(can_stop(TWO_GROUPS, deaths, ends), expected, (deaths, ends))
            self.check_stop(TWO_GROUPS, deaths, ends)

    def test_a_dead_worker_ahead_of_its_death(self):
        net = (("a", "b"), (("p", "a", "b", 2, 1),))
        for ends, expected in (((4, 3), False), ((4, 4), False), ((5, 3), True), ((6, 3), False), ((9, 7), False),
                               ((3, 3), False), ((2, 2), False), ((9, 3), False)):
            self.assertIs(can_stop(net, (("a", 9), ("b", 3)), ends), expected, ends)
        self.assertIs(can_stop(net, (("a", 3), ("b", 9)), (3, 3)), True)
        self.assertEqual(first_stops(net, (("a", 9), ("b", 3))), (5, 3))

    def test_all_die_at_many(self):
        source = random.Random(165)
        for net in [CYCLE, TWO_GROUPS, FORK] + small_nets(source, 20, 4, 4, 3):
            for many in (0, 1, 3):
                deaths = tuple((worker, many) for worker in net[0])
                for counts in boxes(net, 4 if len(net[0]) < 5 else 2):
                    self.assertIs(can_stop(net, deaths, counts), can_be_left(net, many, counts), (net, counts))
                    if can_stop(net, deaths, counts):
                        self.assertEqual(len(stop_drops(net, deaths, counts)), price(net, many, counts))
                if never_held(net):
                    self.assertEqual(first_stops(net, deaths), least_left(net, many))


class FirstAndLastTest(unittest.TestCase):

    def check_way(self, net, deaths, worker, expected):
        """The way leads to a dead worker, and the number there comes to the expected one."""
        known = {queue[0]: queue for queue in net[1]}
        place = worker
        steps = first_way(net, deaths, worker)
        self.assertIs(type(steps), tuple)
        for name, side in steps:
            start, end = known[name][1:3] if side == "along" else known[name][2:0:-1]
            self.assertEqual((place, side in ("along", "against")), (start, True))
            place = end
        number = dict(deaths)[place]
        for name, side in steps[::-1]:
            number = number + known[name][3] if side == "along" else max(0, number - known[name][4] + 1)
        self.assertEqual(number, expected, (net, deaths, worker))

    def check_least(self, net, deaths, first):
        """No step to a neighbour comes to less, so no way does."""
        number = dict(zip(net[0], first))
        for worker, death in deaths:
            self.assertLessEqual(number[worker], death)
        for _, start, end, room, notice in net[1]:
            if number[start] is not None:
                self.assertLessEqual(number[start], number[end] + room)
                self.assertLessEqual(number[end], max(0, number[start] - notice + 1))

    def check_net(self, net, deaths):
        first, last = first_stops(net, deaths), last_stops(net, deaths)
        self.assertIs(type(first), tuple)
        self.check_least(net, deaths, first)
        dead = {worker for worker, _ in deaths}
        for group in groups(net):
            for worker in group:
                place = net[0].index(worker)
                if dead.isdisjoint(group):
                    self.assertEqual((first[place], last[place], first_way(net, deaths, worker)), (None,) * 3)
                else:
                    self.check_way(net, deaths, worker, first[place])
                    self.assertGreaterEqual(last[place], first[place])
                    if first[place] == dict(deaths).get(worker):
                        self.assertEqual(first_way(net, deaths, worker), ())
        for ends in (first, last):
            self.assertIs(can_stop(net, deaths, ends), True, (net, deaths, ends))
            self.assertIsNotNone(formula(net, deaths, ends))
        return first, last

    def check_greatest(self, net, deaths, last):
        """Each one is at its death, or as far ahead of a neighbour as it can be: no one can be farther."""
        number = dict(zip(net[0], last))
        ahead = {worker: [] for worker in net[0]}
        for _, start, end, room, notice in net[1]:
            if number[start] is not None:
                ahead[start].append(number[end] + notice * (room + 1) - 1)
                ahead[end].append(number[start])
        for worker in net[0]:
            if number[worker] is not None:
                self.assertEqual(number[worker], min(ahead[worker] + [dict(deaths)[worker]]
                                                     if worker in dict(deaths) else ahead[worker]))

    def test_small_nets(self):
        source = random.Random(166)
        seen = 0
        for net in small_nets(source, 300, 5, 5, 4):
            deaths = random_deaths(source, net, 9)
            if not never_held(net):
                for worker in net[0]:
                    self.assertIsNone(first_way(net, deaths, worker))
                self.assertEqual((first_stops(net, deaths), last_stops(net, deaths)), (None, None))
                continue
            seen += 1
            first, last = self.check_net(net, deaths)
            self.check_greatest(net, deaths, last)
            for ends in (first, last):
                self.assertEqual(held(net, stop_drops(net, deaths, ends), deaths=deaths), ends)
        self.assertGreater(seen, 200)

    def test_large_nets(self):
        source = random.Random(167)
        for most in (9, 10 ** 39):
            net = calm_net(source, 40, 60, most)
            dead = tuple((worker, source.randint(0, most * 9)) for worker in net[0][::7])
            for deaths in (dead, ((net[0][3], MANY),), ((net[0][-1], 0),), ()):
                _, last = self.check_net(net, deaths)
                self.check_greatest(net, deaths, last)
        net = wild_net(source, 40, 60, HUGE)
        self.assertEqual((first_stops(net, ((net[0][0], 5),)), first_way(net, (), net[0][0])), (None, None))
        workers = many_workers(40)
        line = tuple((f"q{place:02}", workers[place], workers[place + 1], HUGE, HUGE) for place in range(39))
        first = first_stops((workers, line), ((workers[-1], MANY),))
        self.assertEqual(first, tuple(MANY + (39 - place) * HUGE for place in range(40)))
        last = last_stops((workers, line), ((workers[-1], MANY),))
        self.assertEqual(last, tuple(MANY + (39 - place) * (HUGE ** 2 + HUGE - 1) for place in range(40)))
        self.assertIs(can_stop((workers, line), ((workers[-1], MANY),), last), True)

    def test_below_0_is_0(self):
        net = (("a", "b", "c"), (("p", "a", "b", 5, 4), ("q", "c", "b", 3, 1)))
        self.assertEqual(first_stops(net, (("a", 2),)), (2, 0, 3))
        self.assertEqual(first_stops(net, (("a", 5),)), (5, 2, 5))
        self.assertEqual(first_way(net, (("a", 2),), "c"), (("q", "along"), ("p", "against")))
        self.assertEqual(first_stops(net, (("a", 2), ("b", 0))), (2, 0, 3))
        self.assertEqual(first_way(net, (("a", 2), ("c", 1)), "b"), (("p", "against"),))

    def test_first_ways_of_the_dead(self):
        net = (("a", "b"), (("p", "a", "b", 2, 1),))
        self.assertEqual(first_way(net, (("a", 9), ("b", 3)), "b"), ())
        self.assertEqual(first_way(net, (("a", 9), ("b", 3)), "a"), (("p", "along"),))
        self.assertEqual(first_way(net, (("a", 5), ("b", 3)), "a"), ())
        self.assertEqual(first_way(net, (("a", 2), ("b", 3)), "b"), (("p", "against"),))
        self.assertIsNone(first_way(FORK, (("a", 0),), "a"))
        self.assertIsNone(first_way(TWO_GROUPS, (("a", 0),), "b"))
        self.assertEqual(first_way(TWO_GROUPS, (("a", 0),), "a"), ())

    def test_tables_tell_what_a_dead_door_does(self):
        source = random.Random(168)
        seen = 0
        for net in small_nets(source, 80, 5, 5, 4):
            if never_held(net):
                enough = sum(queue[4] - 1 for queue in net[1]) + source.randint(0, 3)
                dead = source.choice(net[0])
                first = first_stops(net, ((dead, enough),))
                table = table_of((net, net[0]))
                for place, worker in enumerate(net[0]):
                    cost = cheapest_ways(net, worker).get(dead)
                    self.assertEqual(cost, table[place, net[0].index(dead)])
                    self.assertEqual(first[place], None if cost is None else enough + cost)
                    seen += cost is not None
        self.assertGreater(seen, 150)

    def test_no_worker_is_told_first(self):
        for net in (FORK, WIDE, ALONE):
            for deaths in ((), (("z", 0),) if net == ALONE else (("a", 0),)):
                for worker in ("x", "p", "", "A"):
                    check_error(self, NoWorker, {"worker": worker}, lambda: first_way(net, deaths, worker))

    def test_calls(self):
        deaths = (("d", 3), ("s", 9))
        for net in (WIDE, FORK):
            check_call(self, is_deaths, net=net, thing=deaths)
            check_call(self, first_stops, net=net, deaths=deaths)
            check_call(self, last_stops, net=net, deaths=deaths)
            check_call(self, first_way, net=net, deaths=deaths, worker="a")
            for ends in ((5, 3, 8), (None, None, None), (2, 0, 4), (1, 2, 3)):
                check_call(self, can_stop, net=net, deaths=deaths, ends=ends)
                check_call(self, stop_drops, net=net, deaths=deaths, ends=ends)
                check_call(self, stop_drops, net=net, deaths=(), ends=ends)


if __name__ == "__main__":
    unittest.main()

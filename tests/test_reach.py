"""What can stand together, over all drops."""

import random
import unittest

from joinlags.errors import NoWorker
from joinlags.nets import groups, idle
from joinlags.reach import (can_stand, lead_counts, lead_flow, lead_price, leads_over, most_counts, most_flow,
                            most_messages, way_to)
from joinlags.runs import Run
from checks import check_call, check_error
from choices import boxes, most_held, standing
from samples import (ALONE, BARE, CYCLE, DOUBLE, FORK, HUGE, TWO_GROUPS, WIDE, calm_net, listed, small_nets,
                     sloped_net, wild_net)

GREAT = 10 ** 42
CHAIN = (("a", "b", "c"), (("p", "a", "b", 1, 1), ("q", "b", "c", 2, 2)))
NETS = (ALONE, BARE, CHAIN, CYCLE, DOUBLE, FORK, TWO_GROUPS, WIDE)


def most_lead(queue):
    return queue[4] * (queue[3] + 1) - 1


def leads_of(net, counts):
    count = dict(zip(net[0], counts))
    return [count[queue[1]] - count[queue[2]] for queue in net[1]]


def messages_of(net, counts):
    return sum(min(lead, queue[3]) for queue, lead in zip(net[1], leads_of(net, counts)))


def drops_for(net, counts):
    return sum(max(0, lead - queue[3]) for queue, lead in zip(net[1], leads_of(net, counts)))


def surplus(net, flow):
    """A dict from each worker to the numbers of the queues that start at it less those that end at it."""
    found = {worker: 0 for worker in net[0]}
    for queue, number in zip(net[1], flow):
        found[queue[1]] += number
        found[queue[2]] -= number
    return found


def message_cost(queue, number):
    if number >= 1:
        return 0
    return queue[3] - number * most_lead(queue)


def drop_cost(queue, number):
    if number <= 0:
        return 0
    return queue[3] + (number - 1) * most_lead(queue)


def least_bounds(net):
    """A dict from each pair of workers to the greatest lead of the second over the first, by Floyd's way."""
    nodes = [None, *net[0]]
    bound = {(node, node): 0 for node in nodes}

    def keep(start, end, weight):
        bound[start, end] = min(weight, bound.get((start, end), weight))

    for queue in net[1]:
        keep(queue[1], queue[2], 0)
        keep(queue[2], queue[1], most_lead(queue))
    for worker in net[0]:
        keep(worker, None, 0)
    for worker in idle(net):
        keep(None, worker, 0)
    for middle in nodes:
        for start in nodes:
            for end in nodes:
                if (start, middle) in bound and (middle, end) in bound:
                    keep(start, end, bound[start, middle] + bound[middle, end])
    return bound


class ReachCase(unittest.TestCase):

    def check_counts(self, net, counts):
        """These are COUNTS that can stand."""
        self.assertIs(type(counts), tuple)
        self.assertEqual(len(counts), len(net[0]))
        self.assertTrue(all(type(count) is int and count >= 0 for count in counts))
        self.assertIs(can_stand(net, counts), True)

    def check_numbers(self, net, flow):
        self.assertIs(type(flow), tuple)
        self.assertEqual([type(number) for number in flow], [int] * len(net[1]))

    def check_most(self, net):
        """The COUNTS and the certificate show the same number, so it is the greatest."""
        most, counts, flow = most_messages(net), most_counts(net), most_flow(net)
        self.check_counts(net, counts)
        self.assertEqual(messages_of(net, counts), most)
        self.check_numbers(net, flow)
        found = surplus(net, flow)
        resting = idle(net)
        self.assertTrue(all(found[worker] <= 0 for worker in net[0] if worker not in resting), net)
        self.assertEqual(sum(message_cost(queue, number) for queue, number in zip(net[1], flow)), most)
        return most

    def check_lead(self, net, worker, other, lead):
        """The COUNTS and the certificate show the same price, so it is the least."""
        price, counts = lead_price(net, worker, other, lead), lead_counts(net, worker, other, lead)
        pair = lead_flow(net, worker, other, lead)
        if price is None:
            self.assertIsNone(counts)
            self.assertIsNone(pair)
            return None
        self.check_counts(net, counts)
        count = dict(zip(net[0], counts))
        self.assertEqual((count[worker] - count[other], drops_for(net, counts)), (lead, price))
        self.assertIs(type(pair), tuple)
        many, flow = pair
        self.assertIs(type(many), int)
        self.check_numbers(net, flow)
        least = {place: 0 for place in net[0]}
        if worker != other:
            least.update({worker: many, other: -many})
        found = surplus(net, flow)
        resting = idle(net)
        self.assertTrue(all(found[place] >= least[place] for place in net[0] if place not in resting), net)
        costs = sum(drop_cost(queue, number) for queue, number in zip(net[1], flow))
        self.assertEqual(lead * many - costs, price)
        return price


class CanStandTest(ReachCase):

    def test_the_edges_of_a_lead(self):
        net = (("a", "b"), (("p", "a", "b", 3, 2),))
        for counts, expected in (((0, 0), True), ((7, 0), True), ((8, 0), False), ((0, 1), False), ((9, 9), True),
                                 ((GREAT, GREAT), True), ((GREAT, GREAT - 7), True), ((GREAT, GREAT - 8), False)):
            self.assertIs(can_stand(net, counts), expected, counts)

    def test_great_rooms(self):
        net = (("a", "b"), (("p", "a", "b", HUGE, 100),))
        self.assertIs(can_stand(net, (100 * HUGE + 99, 0)), True)
        self.assertIs(can_stand(net, (100 * HUGE + 100, 0)), False)

    def test_idle_workers_have_0(self):
        self.assertIs(can_stand(CYCLE, (0, 0, 1, 0)), True)
        self.assertIs(can_stand(CYCLE, (1, 1, 1, 1)), False)
        self.assertIs(can_stand(CYCLE, (0, 0, 1, 1)), False)
        self.assertIs(can_stand((("i", "j", "z"), CYCLE[1][:2]), (0, 0, GREAT)), True)

    def test_nets_without_queues(self):
        self.assertIs(can_stand(ALONE, (GREAT,)), True)
        self.assertIs(can_stand(BARE, (7, GREAT)), True)

    def test_calls(self):
        for counts in ((2, 0, 4), (0, 0, 9), (1, 2, 3)):
            check_call(self, can_stand, net=FORK, counts=counts)
            check_call(self, way_to, net=FORK, counts=counts)

    def check_way(self, net, counts, fewest):
        found = way_to(net, counts)
        if fewest is None:
            self.assertIsNone(found)
            return
        drops, order = found
        self.assertEqual((type(found), type(drops), type(order)), (tuple, tuple, tuple))
        self.assertEqual((len(drops), list(drops)), (fewest, sorted(set(drops))))
        run = Run(net, drops)
        for worker in order:
            run += worker
        self.assertEqual(run.counts(), tuple(counts))

    def check_all(self, net, limit):
        found = standing(net, limit)
        for counts in boxes(net, limit):
            self.assertIs(can_stand(net, counts), counts in found, (net, counts))
            self.check_way(net, counts, found.get(counts))

    def test_what_runs_do(self):
        source = random.Random(41)
        for net in NETS[:4]:
            self.check_all(net, 3)
        for limit, queues, room, many in ((4, 3, 2, 60), (9, 1, 3, 30), (6, 2, 2, 40)):
            for net in small_nets(source, many, 3, queues, room):
                self.check_all(net, limit)

    def test_ways_at_the_bounds(self):
        net = (("a", "b", "c"), (("p", "a", "b", 12, 12), ("q", "b", "c", 12, 1), ("r", "a", "c", 12, 12)))
        self.check_way(net, (200, 45, 45), 286)
        self.check_way(net, (200, 57, 45), 131 + 143)
        self.check_way(net, (200, 44, 44), None)
        self.check_way(net, (200, 200, 200), 0)
        source = random.Random(42)
        for _ in range(20):
            large = sloped_net(source, 10, 14, 12)
            counts = tuple(min(200, lead or 0) for lead in leads_over(large, large[0][-1]))
            self.check_way(large, counts, drops_for(large, counts) if can_stand(large, counts) else None)


class LeadsOverTest(ReachCase):

    def test_edges(self):
        self.assertEqual(leads_over(ALONE, "z"), (0,))
        self.assertEqual((leads_over(BARE, "a"), leads_over(BARE, "b")), ((0, None), (None, 0)))
        self.assertEqual(leads_over(CYCLE, "s"), (0, 0, 0, 0))
        self.assertEqual(leads_over(CYCLE, "i"), (0, 0, 1, 0))
        self.assertEqual(leads_over(TWO_GROUPS, "a"), (0, None, 1, None, None))
        self.assertEqual(leads_over(DOUBLE, "b"), (5, 0))
        self.assertEqual(leads_over((("i", "j", "s", "z"), CYCLE[1][:2] + (("d", "s", "j", 1, 1),)), "z"), (0, 0, 1, 0))
        self.assertEqual(leads_over((("i", "j", "z"), CYCLE[1][:2]), "i"), (0, 0, None))
        self.assertEqual(leads_over((("a", "b"), (("p", "a", "b", HUGE, HUGE),)), "b"), (HUGE * HUGE + HUGE - 1, 0))

    def test_no_worker(self):
        check_error(self, NoWorker, {"worker": "p"}, lambda: leads_over(FORK, "p"))
        check_error(self, NoWorker, {"worker": "zz"}, lambda: leads_over(listed(ALONE), "zz"))

    def test_calls(self):
        check_call(self, leads_over, net=FORK, worker="d")
        check_call(self, leads_over, net=TWO_GROUPS, worker="b")

    def check_leads(self, net):
        bound = least_bounds(net)
        for worker in net[0]:
            leads = leads_over(net, worker)
            self.assertEqual(leads, tuple(bound.get((worker, other)) for other in net[0]))
            # The worker itself has 0 then, and who has no greatest lead may have as little.
            self.check_counts(net, tuple(lead or 0 for lead in leads))
            group = [row for row in groups(net) if worker in row][0]
            for other, lead in zip(net[0], leads):
                if lead is None:
                    self.assertNotIn(other, group)

    def test_all_at_one_moment_and_not_more(self):
        source = random.Random(43)
        for net in small_nets(source, 100, 6, 7, 4):
            self.check_leads(net)

    def test_large_nets(self):
        source = random.Random(44)
        for make in (wild_net, sloped_net, calm_net):
            self.check_leads(make(source, 20, 30, HUGE))
        net = calm_net(source, 40, 60, HUGE)
        self.check_counts(net, tuple(lead or 0 for lead in leads_over(net, "w39")))

    def test_what_runs_do(self):
        source = random.Random(45)
        for net in list(NETS[:4]) + small_nets(source, 25, 3, 3, 1):
            found = standing(net, 6)
            for place, worker in enumerate(net[0]):
                for other, lead in enumerate(leads_over(net, worker)):
                    greatest = max(counts[other] - counts[place] for counts in found)
                    self.assertEqual(greatest, 6 if lead is None else lead, net)


class MostTest(ReachCase):

    def test_edges(self):
        for net, most in ((ALONE, 0), (BARE, 0), (CYCLE, 1), (DOUBLE, 7), (FORK, 8), (CHAIN, 3), (TWO_GROUPS, 3)):
            self.assertEqual(self.check_most(net), most, net)
        self.assertEqual(self.check_most((("a", "d", "s"), (("p", "s", "a", 1, 1), ("q", "a", "d", 1, 1),
                                                            ("r", "s", "d", 9, 1)))), 4)

    def test_several_queues_between_two_workers(self):
        net = (("a", "b"), (("p", "a", "b", 1, 1), ("q", "a", "b", HUGE, 1), ("r", "a", "b", 4, 4)))
        self.assertEqual(self.check_most(net), 3)
        self.assertEqual(self.check_most((net[0], net[1] + (("s", "b", "a", 9, 9),))), 0)

    def test_idle_workers_are_in_no_certificate(self):
        net = (("i", "j", "s", "t"), CYCLE[1][:2] + (("c", "s", "i", 5, 1), ("d", "s", "t", 7, 2)))
        self.assertEqual(self.check_most(net), 10)

    def test_what_runs_do(self):
        source = random.Random(46)
        for net in list(NETS[:4]) + small_nets(source, 50, 3, 3, 2):
            # Nobody need be further than all rooms together for all queues to be as full as they can be.
            limit = sum(queue[3] for queue in net[1])
            self.assertEqual(self.check_most(net), most_held(net, limit + 1), net)

    def test_certificates(self):
        source = random.Random(47)
        for make, room in ((wild_net, 5), (sloped_net, 5), (calm_net, 90), (wild_net, HUGE), (sloped_net, HUGE),
                           (calm_net, HUGE)):
            for _ in range(25):
                self.check_most(make(source, source.randint(2, 10), source.randint(0, 14), room))

    def test_calls(self):
        for function in (most_messages, most_counts, most_flow):
            check_call(self, function, net=FORK)
            check_call(self, function, net=CYCLE)


class LeadTest(ReachCase):

    def test_a_worker_and_itself(self):
        for net in NETS:
            for worker in net[0]:
                self.assertEqual(self.check_lead(net, worker, worker, 0), 0)
                self.assertIsNone(self.check_lead(net, worker, worker, 1))
                self.assertIsNone(self.check_lead(net, worker, worker, -GREAT))

    def test_workers_of_different_groups(self):
        for lead in (0, 5, -GREAT, GREAT):
            self.assertEqual(self.check_lead(BARE, "a", "b", lead), 0)
            self.assertEqual(self.check_lead(TWO_GROUPS, "a", "e", lead), 0)
        net = (("i", "j", "z"), CYCLE[1][:2])
        self.assertEqual([self.check_lead(net, "z", "i", lead) for lead in (GREAT, 0, -1)], [0, 0, None])
        self.assertEqual([self.check_lead(net, "i", "z", lead) for lead in (-GREAT, 0, 1)], [0, 0, None])

    def test_idle_workers(self):
        self.assertEqual([self.check_lead(CYCLE, "s", "i", lead) for lead in (-1, 0, 1, 2)], [None, 0, 0, None])
        self.assertEqual([self.check_lead(CYCLE, "i", "t", lead) for lead in (-1, 0, 1)], [None, 0, None])
        net = (("i", "j", "s", "t"), CYCLE[1][:2] + (("c", "s", "i", 2, 2), ("d", "s", "t", 1, 1)))
        self.assertEqual([self.check_lead(net, "s", "j", lead) for lead in range(7)], [0, 0, 0, 1, 2, 3, None])

    def test_leads_that_cannot_be(self):
        self.assertEqual([self.check_lead(DOUBLE, "a", "b", lead) for lead in range(-1, 7)],
                         [None, 0, 0, 0, 1, 2, 3, None])
        self.assertEqual([self.check_lead(DOUBLE, "b", "a", lead) for lead in (1, 0, -2, -3, -5, -6)],
                         [None, 0, 0, 1, 3, None])

    def test_great_numbers(self):
        net = (("a", "b"), (("p", "a", "b", HUGE, 100), ("q", "a", "b", 60 * HUGE, 2)))
        self.assertEqual([self.check_lead(net, "a", "b", lead) for lead in (HUGE, 60 * HUGE + 7, 100 * HUGE + 99)],
                         [0, 59 * HUGE + 14, 139 * HUGE + 198])
        self.assertIsNone(self.check_lead(net, "a", "b", 100 * HUGE + 100))
        self.assertIsNone(self.check_lead(net, "a", "b", -GREAT))

    def test_no_worker(self):
        for function in (lead_price, lead_counts, lead_flow):
            check_error(self, NoWorker, {"worker": "x"}, lambda: function(FORK, "x", "y", 1))
            check_error(self, NoWorker, {"worker": "y"}, lambda: function(FORK, "a", "y", GREAT))
            check_error(self, NoWorker, {"worker": "p"}, lambda: function(FORK, "p", "p", 0))

    def test_calls(self):
        for function in (lead_price, lead_counts, lead_flow):
            for lead in (-3, 1, 5, 12):
                check_call(self, function, net=FORK, worker="s", other="d", lead=lead)

    def test_what_can_stand(self):
        source = random.Random(48)
        for net in list(NETS[:5]) + small_nets(source, 30, 3, 3, 2):
            rows = [counts for counts in boxes(net, 12) if can_stand(net, counts)]
            for worker in range(len(net[0])):
                for other in range(len(net[0])):
                    for lead in (-7, -4, -3, -2, -1, 0, 1, 2, 3, 5, 6):
                        fewest = min([drops_for(net, counts) for counts in rows
                                      if counts[worker] - counts[other] == lead], default=None)
                        self.assertEqual(self.check_lead(net, net[0][worker], net[0][other], lead), fewest, net)

    def test_what_runs_do(self):
        source = random.Random(49)
        for net in small_nets(source, 30, 3, 2, 2):
            found = standing(net, 6)
            for lead in range(-5, 6):
                fewest = min([many for counts, many in found.items() if counts[0] - counts[1] == lead], default=None)
                self.assertEqual(lead_price(net, "a", "b", lead), fewest, (net, lead))

    def test_certificates(self):
        source = random.Random(50)
        for make, room in ((wild_net, 5), (sloped_net, 5), (calm_net, 90), (wild_net, HUGE), (sloped_net, HUGE),
                           (calm_net, HUGE)):
            for _ in range(12):
                net = make(source, source.randint(2, 10), source.randint(0, 14), room)
                worker, other = source.sample(net[0], 2)
                bound = least_bounds(net)
                high = bound.get((other, worker), GREAT)
                low = -bound.get((worker, other), GREAT)
                for lead in (low, high, (low + high) // 2, source.randint(low, high)):
                    self.assertIsNotNone(self.check_lead(net, worker, other, lead))
                if high < GREAT:
                    self.assertIsNone(self.check_lead(net, worker, other, high + 1))
                if low > -GREAT:
                    self.assertIsNone(self.check_lead(net, worker, other, low - 1))


if __name__ == "__main__":
    unittest.main()

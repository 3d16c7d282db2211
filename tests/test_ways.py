"""Ways: their steps, their costs, their signs."""

import random
import unittest

from joinlags.errors import NoQueue, NoStep, NoWorker
from joinlags.nets import Way, rings
from samples import BARE, DOUBLE, FORK, HUGE, WIDE, listed, random_net


class WayTest(unittest.TestCase):

    def check_error(self, error, value, *arguments):
        with self.assertRaises(error) as caught:
            Way(*arguments)
        self.assertIs(type(caught.exception), error)
        self.assertEqual(list(vars(caught.exception).values()), [value])

    def test_the_way_of_no_step(self):
        way = Way(BARE, "b", ())
        self.assertEqual((way.steps(), way.workers(), way.cost(), len(way)), ((), ("b",), 0, 0))
        self.assertIs(way.is_ring(), False)
        self.assertIs(way.is_bad(), False)
        self.assertIs("b" in way, False)

    def test_by_names_and_by_lists(self):
        way = Way(FORK, "s", ("r", "q"))
        self.assertEqual(Way(net=listed(FORK), start="s", queues=["r", "q"]), way)
        self.assertEqual(way.steps(), (("r", "along"), ("q", "against")))
        self.assertEqual((way.workers(), way.cost()), (("s", "d", "a"), 2))

    def test_it_keeps_copies(self):
        net, queues = listed(FORK), ["r", "q"]
        way = Way(net, "s", queues)
        queues.append("p")
        net[1][2][3] = 100
        net[0].append("z")
        self.assertEqual(way, Way(FORK, "s", ("r", "q")))
        self.assertEqual((len(way), (-way).steps()), (2, (("q", "along"), ("r", "against"))))
        self.assertEqual((way + Way(FORK, "a", ("p",))).cost(), 0)
        self.assertEqual(net[1][2][3], 100)

    def test_errors_in_order(self):
        self.check_error(NoWorker, "p", FORK, "p", ("x",))
        self.check_error(NoWorker, "z", FORK, "z", ())
        self.check_error(NoQueue, "x", FORK, "s", ("x",))
        self.check_error(NoQueue, "a", FORK, "s", ("a",))
        self.check_error(NoStep, 0, FORK, "s", ("q", "x"))
        self.check_error(NoQueue, "x", FORK, "s", ("r", "x", "p"))
        self.check_error(NoStep, 1, FORK, "s", ("r", "p", "x"))
        self.check_error(NoStep, 2, FORK, "s", ("r", "q", "r"))

    def test_there_and_back_over_one_queue(self):
        way = Way(FORK, "s", ("p", "p", "p"))
        self.assertEqual(way.steps(), (("p", "along"), ("p", "against"), ("p", "along")))
        self.assertEqual((way.workers(), way.cost()), (("s", "a", "s", "a"), 4))
        self.assertIs(Way(FORK, "s", ("p", "p")).is_ring(), False)

    def test_the_costs_of_the_steps(self):
        self.assertEqual(Way(FORK, "s", ("r", "q", "p", "p")).costs(), (4, -2, -2, 3))
        self.assertEqual(Way(BARE, "a", ()).costs(), ())

    def test_contains(self):
        way = Way(FORK, "s", ("r", "q"))
        self.assertEqual(["q" in way, "r" in way, "p" in way, "s" in way, "x" in way],
                         [True, True, False, False, False])

    def test_rings(self):
        for start, queues, expected in (
                ("s", "rqp", True), ("d", "rpq", True), ("a", "qrp", True), ("s", "p", False), ("s", "pq", False),
                ("s", "rqpr", False), ("s", "rqprqp", False), ("s", "pprqp", False), ("s", "rqqqp", False)):
            self.assertIs(Way(FORK, start, tuple(queues)).is_ring(), expected, queues)
        for start, queues, expected in (("a", "pq", True), ("b", "qp", True), ("a", "pqpq", False),
                                        ("a", "pp", False), ("a", "pqp", False)):
            self.assertIs(Way(DOUBLE, start, tuple(queues)).is_ring(), expected, queues)

    def test_a_way_that_meets_a_worker_twice_is_no_ring(self):
        net = (("a", "b", "c"), (("p", "a", "b", 1, 1), ("q", "a", "b", 1, 1), ("r", "b", "c", 1, 1),
                                 ("s", "b", "c", 1, 1)))
        self.assertIs(Way(net, "a", tuple("prsq")).is_ring(), False)
        self.assertIs(Way(net, "a", tuple("prs")).is_ring(), False)
        self.assertIs(Way(net, "b", tuple("rs")).is_ring(), True)

    def test_bad_rings(self):
        self.assertIs(Way(FORK, "s", tuple("rqp")).is_bad(), True)
        self.assertIs(Way(FORK, "a", tuple("prq")).is_bad(), True)
        self.assertIs(Way(FORK, "s", tuple("pqr")).is_bad(), False)
        self.assertIs(Way(WIDE, "s", tuple("rqp")).is_bad(), False)
        # Its cost is below 0, but it is no ring.
        self.assertIs(Way(FORK, "a", ("p",)).is_bad(), False)
        self.assertIs(Way(FORK, "s", tuple("rqp")).is_bad() and Way(FORK, "s", tuple("rqprqp")).is_bad(), False)

    def test_rooms_without_bounds(self):
        net = (("a", "b"), (("p", "a", "b", HUGE, HUGE), ("q", "a", "b", HUGE, 1)))
        self.assertEqual(Way(net, "a", ("p", "q")).cost(), HUGE)
        self.assertEqual(Way(net, "a", ("q", "p")).cost(), 1)
        self.assertEqual((Way(net, "b", ("p", "p")) * 500).cost(), 500)
        self.assertEqual(Way(net, "b", ("p",)).cost(), 1 - HUGE)


class SignsTest(unittest.TestCase):

    def check_no_step(self, place, act):
        with self.assertRaises(NoStep) as caught:
            act()
        self.assertEqual(caught.exception.place, place)

    def test_sum(self):
        first, second = Way(FORK, "s", ("r",)), Way(FORK, "d", ("q", "p"))
        both = first + second
        self.assertEqual(both, Way(FORK, "s", ("r", "q", "p")))
        self.assertEqual(both.workers(), ("s", "d", "a", "s"))
        self.assertEqual((len(first), len(second)), (1, 2))
        nothing = Way(FORK, "d", ())
        self.assertEqual(first + nothing, first)
        self.assertEqual(nothing + second, second)
        self.assertEqual(nothing + nothing, nothing)

    def test_sum_of_ways_that_do_not_meet(self):
        way = Way(FORK, "s", ("r", "q"))
        self.check_no_step(2, lambda: way + way)
        self.check_no_step(2, lambda: way + Way(FORK, "d", ()))
        self.check_no_step(0, lambda: Way(FORK, "s", ()) + Way(FORK, "a", ("p",)))

    def test_sum_of_ways_of_other_nets(self):
        way = Way(FORK, "s", ("r", "q"))
        self.check_no_step(2, lambda: way + Way(WIDE, "a", ("p",)))
        self.check_no_step(2, lambda: way + Way(WIDE, "a", ()))
        self.assertEqual(len(way + Way(listed(FORK), "a", ("p",))), 3)

    def test_sum_with_what_is_no_way(self):
        for thing in (1, "q", (), None, (("q", "along"),)):
            with self.assertRaises(TypeError):
                Way(FORK, "s", ()) + thing

    def test_back(self):
        way = Way(FORK, "s", ("r", "q", "q"))
        self.assertEqual((-way).steps(), (("q", "against"), ("q", "along"), ("r", "against")))
        self.assertEqual((-way).workers(), ("d", "a", "d", "s"))
        self.assertEqual(-(-way), way)
        self.assertNotEqual(-way, way)
        self.assertEqual(-Way(FORK, "s", ()), Way(FORK, "s", ()))

    def test_many_times(self):
        ring, way = Way(FORK, "s", ("r", "q", "p")), Way(FORK, "s", ("r",))
        self.assertEqual(ring * 0, Way(FORK, "s", ()))
        self.assertEqual(way * 0, Way(FORK, "s", ()))
        self.assertEqual((ring * 1, way * 1), (ring, way))
        self.assertEqual(ring * 3, ring + ring + ring)
        self.assertEqual((ring * 3).workers(), ("s", "d", "a", "s", "d", "a", "s", "d", "a", "s"))
        self.assertEqual((ring * 300).steps(), ring.steps() * 300)
        for many in (2, 3, HUGE):
            self.check_no_step(1, lambda: way * many)

    def test_no_step_many_times(self):
        nothing = Way(FORK, "a", ())
        for many in (0, 1, 2, HUGE):
            self.assertEqual(nothing * many, nothing)

    def test_in_place_signs_make_a_new_way(self):
        ring = way = Way(FORK, "s", ("r", "q", "p"))
        way += Way(FORK, "s", ("p",))
        self.assertEqual((len(ring), len(way)), (3, 4))
        way = ring
        way *= 2
        self.assertEqual((len(ring), len(way)), (3, 6))

    def test_equal(self):
        way = Way(FORK, "s", ("r",))
        self.assertTrue(way == Way(listed(FORK), "s", ["r"]))
        self.assertFalse(way != Way(FORK, "s", ("r",)))
        for other in (Way(FORK, "s", ()), Way(FORK, "d", ("r",)), Way(FORK, "s", ("p",)), Way(WIDE, "s", ("r",)),
                      (("r", "along"),), "r", 1, None, way.steps(), [way]):
            self.assertFalse(way == other)
            self.assertTrue(way != other)
        self.assertNotEqual(Way(FORK, "s", ()), Way(FORK, "a", ()))
        self.assertNotEqual(Way(FORK, "s", ()), ())

    def test_facts_of_all_rings(self):
        source = random.Random(11)
        for _ in range(60):
            net = random_net(source, 5, 7, 4)
            for ring in rings(net):
                queues = [name for name, _ in ring]
                start = {queue[0]: queue[1 if ring[0][1] == "along" else 2] for queue in net[1]}[queues[0]]
                way = Way(net, start, queues)
                self.assertEqual(way.steps(), ring)
                self.assertTrue(way.is_ring() and (-way).is_ring())
                self.assertEqual(way.is_bad(), way.cost() <= 0)
                rooms = {queue[0]: queue[3] - queue[4] + 1 for queue in net[1]}
                self.assertEqual(way.cost() + (-way).cost(), sum(rooms[name] for name in queues))


if __name__ == "__main__":
    unittest.main()

"""Chains of copies of a link, and circles of them."""

import itertools
import math
import random
import unittest

from joinlags.chains import (chain, chain_table, circle, endless, even_lags, glued, goes_round, is_link, longest,
                             settled)
from joinlags.errors import NoFit
from joinlags.judge import lags, never_held
from joinlags.nets import idle, is_net
from joinlags.tables import Table, alike, is_table, joined, part_of, table_of
from checks import check_call, check_error
from samples import ALONE, BARE, CYCLE, FORK, HUGE, TWO_GROUPS, WIDE, calm_net, listed, small_nets, wild_net
from test_nets import STRANGE, nested

MANY = 10 ** 45
ROUND = ("a", "b", "c", "d")


def step_link(room, silent=1):
    """The link of the document whose chains go on as long as the room lets them."""
    queues = (("p", "b", "a", 3, 3), ("q", "d", "c", silent, 1), ("r", "a", "c", room, 1))
    return (ROUND, queues), ("a", "c"), ("b", "d")


STEP = step_link(3)
CALM = step_link(3, 2)
ZIG = ((("a", "b", "m"), (("p", "a", "m", 2, 1), ("q", "b", "m", 3, 2))), ("a",), ("b",))


def random_links(source, many):
    """Links of one to three near doors, in many of which nobody can be held."""
    found = []
    for net in small_nets(source, many, 8, 9, source.choice([3, 6, 12])):
        doors = source.sample(net[0], 2 * source.randint(1, min(3, len(net[0]) // 2)))
        half = len(doors) // 2
        found.append((net, tuple(doors[:half]), tuple(doors[half:])))
        tame = tuple((name, start, end, room, source.randint(1, max(1, notice // 2)))
                     for name, start, end, room, notice in net[1])
        found.append(((net[0], tame), tuple(doors[:half]), tuple(doors[half:])))
    return found


def laid_out(link, many):
    """The PART of the chain, its near and then its far doors, laid out."""
    net, near, far = chain(link, many)
    return net, near + far


def near_costs(link, many):
    table = chain_table(link, many)
    return None if table is None else table.some(list(range(len(link[1])))).rows()


def most_settled(half):
    """N + 1, as the document tells N."""
    return 1 + sum(math.factorial(half) // math.factorial(half - 2 * pairs) for pairs in range(1, half // 2 + 1))


class IsLinkTest(unittest.TestCase):

    def test_links(self):
        for link in (STEP, CALM, ZIG, (FORK, ("a",), ("s",)), (BARE, ("b",), ("a",)), (CYCLE, ("i", "s"), ("t", "j"))):
            self.assertIs(is_link(link), True)
            self.assertIs(is_link(listed(link)), False)
        self.assertIs(is_link(thing=ZIG), True)

    def test_no_links(self):
        net = STEP[0]
        for thing in ((net, ("a",), ("a",)), (net, (), ()), (net, ("a",), ()), (net, (), ("a",)), (net, ("a",), ("b", "c")),
                      (net, ("a", "b"), ("c",)), (net, ("a", "a"), ("b", "c")), (net, ("a", "b"), ("c", "c")),
                      (net, ("a", "b"), ("c", "a")), (net, ("a", "b"), ("b", "a")), (net, ("x",), ("a",)),
                      (net, ("a",), ("x",)), (net, ("a",), ("p",)), (net, ["a"], ("b",)), (net, ("a",), ["b"]),
                      [net, ("a",), ("b",)], (net, "a", "b"), (net, ("a",)), (net, ("a",), ("b",), ()),
                      (net, ("ab"), ("cd")), ((net[0], net[1][::-1]), ("a",), ("b",)), (listed(net), ("a",), ("b",)),
                      (None, ("a",), ("b",)), (net, None, ("b",)), (net, ("a",), None), (net, (None,), ("b",)),
                      (net, ("a",), (True,)), (net, (["a"],), ("b",)), (net, ("a",), (("b",),)), (net, (1,), ("b",)),
                      (net, ("a",), (nested(9),)), (("a",), ("b",), net), (ALONE, ("z",), ("z",))):
            self.assertIs(is_link(thing), False, thing)

    def test_strange_values(self):
        for thing in STRANGE:
            self.assertIs(is_link(thing), False, thing)
            self.assertIs(is_link((STEP[0], thing, ("b",))), thing == ("a",), thing)
            self.assertIs(is_link((STEP[0], ("c",), thing)), thing == ("a",), thing)
            self.assertIs(is_link((STEP[0], ("c", "d"), thing)), thing == ("a", "b"), thing)
            self.assertIs(is_link((thing, ("a",), ("b",))), False, thing)
            self.assertIs(is_link((STEP[0], (thing,), ("b",))), thing == "a", thing)


class LaidOutTest(unittest.TestCase):

    def test_one_copy(self):
        self.assertEqual(chain(ZIG, 1), ((("a.0", "b.0", "m.0"), (("p.0", "a.0", "m.0", 2, 1), ("q.0", "b.0", "m.0", 3, 2))),
                                         ("a.0",), ("b.0",)))

    def test_names_of_doors(self):
        net, near, far = chain(ZIG, 3)
        self.assertEqual((net[0], near, far), (("a.0", "b.0", "b.1", "b.2", "m.0", "m.1", "m.2"), ("a.0",), ("b.2",)))
        self.assertEqual(dict((queue[0], queue[1:3]) for queue in net[1]), {
            "p.0": ("a.0", "m.0"), "q.0": ("b.0", "m.0"), "p.1": ("b.0", "m.1"), "q.1": ("b.1", "m.1"),
            "p.2": ("b.1", "m.2"), "q.2": ("b.2", "m.2")})

    def test_doors_cross(self):
        link = ((("a", "b", "c", "d"), (("p", "a", "b", 2, 1),)), ("a", "d"), ("c", "b"))
        net, near, far = chain(link, 2)
        self.assertEqual((net, near, far), (
            (("a.0", "b.0", "b.1", "c.0", "c.1", "d.0"), (("p.0", "a.0", "b.0", 2, 1), ("p.1", "c.0", "b.1", 2, 1))),
            ("a.0", "d.0"), ("c.1", "b.1")))
        self.assertEqual(circle(link, 2), (("a.0", "b.0", "c.0", "d.0"),
                                           (("p.0", "a.0", "b.0", 2, 1), ("p.1", "c.0", "d.0", 2, 1))))

    def test_names_with_points(self):
        link = ((("a", "a.1", "a.2"), (("p", "a", "a.1", 2, 1), ("p.1", "a.1", "a.2", 3, 1))), ("a",), ("a.2",))
        net, near, far = chain(link, 12)
        self.assertIs(is_link((net, near, far)), True)
        self.assertEqual((len(net[0]), len(net[1]), far), (25, 24, ("a.2.11",)))
        self.assertIs(is_net(circle(link, 12)), True)
        self.assertIs(is_link(glued(link, link)), True)

    def test_circles(self):
        self.assertEqual(circle(ZIG, 3), (
            ("a.0", "b.0", "b.1", "m.0", "m.1", "m.2"),
            (("p.0", "a.0", "m.0", 2, 1), ("p.1", "b.0", "m.1", 2, 1), ("p.2", "b.1", "m.2", 2, 1),
             ("q.0", "b.0", "m.0", 3, 2), ("q.1", "b.1", "m.1", 3, 2), ("q.2", "a.0", "m.2", 3, 2))))
        both = ((("a", "b"), (("p", "a", "b", 1, 1),)), ("a",), ("b",))
        self.assertEqual(circle(both, 2), (("a.0", "b.0"), (("p.0", "a.0", "b.0", 1, 1), ("p.1", "b.0", "a.0", 1, 1))))

    def test_sizes(self):
        source = random.Random(201)
        for link in random_links(source, 60):
            net, near, _ = link
            for many in (1, 2, 3, 5):
                laid = chain(link, many)
                self.assertIs(is_link(laid), True)
                self.assertEqual(len(laid[0][0]), many * len(net[0]) - (many - 1) * len(near))
                self.assertEqual(len(laid[0][1]), many * len(net[1]))
                if many > 1:
                    around = circle(link, many)
                    self.assertIs(is_net(around), True)
                    self.assertEqual(len(around[0]), many * (len(net[0]) - len(near)))
                    self.assertIs(set(around[0]) < set(laid[0][0]), True)
                    self.assertEqual([queue[::4] for queue in around[1]], [queue[::4] for queue in laid[0][1]])

    def test_glued(self):
        link = ((("a", "b", "x"), (("p", "x", "b", 5, 2),)), ("x",), ("a",))
        self.assertEqual(glued(ZIG, link), (
            (("a.a", "a.b", "a.m", "b.a", "b.b"),
             (("a.p", "a.a", "a.m", 2, 1), ("a.q", "a.b", "a.m", 3, 2), ("b.p", "a.b", "b.b", 5, 2))),
            ("a.a",), ("b.a",)))
        self.assertEqual(glued(link, ZIG)[1:], (("a.x",), ("b.b",)))
        for one, other in ((ZIG, STEP), (STEP, ZIG)):
            check_error(self, NoFit, {}, lambda: glued(one, other))

    def test_glued_is_joined_at_the_middle(self):
        source = random.Random(202)
        links = random_links(source, 40)
        met = 0
        for one, other in itertools.product(links[::7], links[::5]):
            if len(one[1]) != len(other[1]):
                check_error(self, NoFit, {}, lambda: glued(one, other))
                continue
            met += 1
            net, near, far = glued(one, other)
            self.assertIs(is_link((net, near, far)), True)
            self.assertEqual(net, joined((one[0], one[2]), (other[0], other[1])))
            self.assertEqual((near, far), (tuple("a." + door for door in one[1]), tuple("b." + door for door in other[2])))
        self.assertGreater(met, 100)


class ChainTableTest(unittest.TestCase):

    def test_laid_out(self):
        source = random.Random(203)
        free = 0
        for link in random_links(source, 100):
            for many in (1, 2, 3, 4, 5, 7):
                table = chain_table(link, many)
                self.assertEqual(table, table_of(laid_out(link, many)), (link, many))
                free += table is not None
        self.assertGreater(free, 400)

    def test_copies_add_up(self):
        source = random.Random(204)
        met = 0
        for link in random_links(source, 60):
            first, then, both = (chain_table(link, many) for many in (2, 3, 5))
            if both is None:
                continue
            met += 1
            half = len(link[1])
            one, other = (part_of(table) for table in (first, then))
            net = joined((one[0], one[1][half:]), (other[0], other[1][:half]))
            doors = tuple("a." + door for door in one[1][:half]) + tuple("b." + door for door in other[1][half:])
            self.assertEqual(table_of((net, doors)), both)
        self.assertGreater(met, 30)

    def test_very_many_copies(self):
        for room in (HUGE, HUGE - 1):
            link = step_link(room)
            self.assertEqual(longest(link), room)
            self.assertEqual(chain_table(link, room)[0, 1], 1)
            self.assertEqual(chain_table(link, room - 5)[0, 1], 6)
            self.assertIsNone(chain_table(link, room + 1))
            self.assertIsNone(chain_table(link, MANY))
        table = chain_table(ZIG, MANY)
        # From a to m to b it costs 2 - 1 in each copy, and back 3 - 0.
        self.assertEqual(table.rows(), ((0, MANY), (3 * MANY, 0)))
        great = ((("a", "b"), (("p", "a", "b", HUGE, HUGE),)), ("a",), ("b",))
        self.assertEqual(chain_table(great, MANY).rows(), ((0, MANY * HUGE), (MANY * (1 - HUGE), 0)))
        self.assertEqual(chain_table(CALM, MANY).some((0, 1)), endless(CALM))

    def test_links_of_doors_alone(self):
        bare = (BARE, ("a",), ("b",))
        self.assertEqual(chain_table(bare, MANY).rows(), ((0, None), (None, 0)))
        self.assertEqual((longest(bare), settled(bare), endless(bare).rows()), (None, 1, ((0,),)))
        self.assertIs(goes_round(bare), True)

    def test_idle_workers(self):
        link = (CYCLE, ("i",), ("s",))
        self.assertNotEqual(idle(CYCLE), ())
        self.assertEqual((longest(link), chain_table(link, 1), settled(link), endless(link)), (0, None, None, None))
        self.assertEqual((goes_round(link), even_lags(link)), (False, None))


class LongestTest(unittest.TestCase):

    def check_lengths(self, link, most):
        """longest, settled and endless, told by the tables of all chains of up to the most copies."""
        far = longest(link)
        tables = [chain_table(link, many) for many in range(1, most + 1)]
        free = [table is not None for table in tables]
        self.assertEqual(free, sorted(free, reverse=True))
        if far is not None:
            self.assertEqual((settled(link), endless(link)), (None, None))
            self.assertEqual(free.count(True), min(far, most))
            if far > 0:
                self.assertIsNotNone(chain_table(link, far))
            self.assertIsNone(chain_table(link, far + 1))
            return
        self.assertIs(all(free), True)
        near = [near_costs(link, many) for many in range(1, most + 1)]
        least = settled(link)
        self.assertLessEqual(least, most_settled(len(link[1])))
        self.assertEqual(near[least - 1:], [endless(link).rows()] * (most - least + 1))
        self.assertTrue(least == 1 or near[least - 2] != near[least - 1])
        for many in (most * 9, MANY):
            self.assertEqual(near_costs(link, many), endless(link).rows())
        self.assertIs(is_table(endless(link).rows()), True)

    def test_random_links(self):
        source = random.Random(205)
        seen = {}
        for link in random_links(source, 60):
            self.check_lengths(link, most_settled(len(link[1])) + 2)
            key = (len(link[1]), longest(link) if longest(link) in (None, 0) else "some", settled(link))
            seen[key] = seen.get(key, 0) + 1
        for key in ((1, None, 1), (2, None, 1), (3, None, 1), (1, 0, None), (2, 0, None), (3, 0, None),
                    (2, "some", None), (3, "some", None)):
            self.assertIn(key, seen)

    def test_lengths_by_the_room(self):
        for room in (1, 2, 3, 4, 9, 17):
            self.assertEqual(longest(step_link(room)), room)
            self.check_lengths(step_link(room), 7)

    def test_held_in_one_copy(self):
        for link in ((FORK, ("a",), ("s",)), (FORK, ("s",), ("d",))):
            self.assertEqual((longest(link), chain_table(link, 1), settled(link), endless(link)), (0, None, None, None))
        self.assertEqual(longest((WIDE, ("a",), ("s",))), None)

    def test_one_near_door(self):
        # One worker in the middle carries no ring over, so all chains are as one copy.
        source = random.Random(206)
        for link in random_links(source, 80):
            if len(link[1]) == 1:
                self.assertEqual(longest(link), None if never_held(link[0]) else 0)
                if never_held(link[0]):
                    self.assertEqual((settled(link), endless(link)), (1, Table(((0,),))))

    def test_settled_later(self):
        # The way between the near doors leads through the far ones, and over two copies.
        two = ((ROUND, (("p", "b", "d", 4, 1), ("q", "a", "c", 4, 1), ("r", "d", "c", 5, 2))), ("a", "b"), ("d", "c"))
        self.assertEqual([near_costs(two, many) for many in (1, 2)], [((0, 3), (9, 0)), ((0, 3), (7, 0))])
        self.assertEqual(settled(two), 2)
        self.check_lengths(two, 6)
        three = ((("a", "b", "c", "d", "e", "f"), (("p", "b", "d", 3, 1), ("q", "f", "c", 5, 1), ("r", "a", "e", 3, 1),
                                                   ("s", "f", "d", 2, 2))), ("a", "b", "c"), ("d", "e", "f"))
        self.assertEqual(settled(three), 3)
        self.check_lengths(three, 10)

    def test_doors_that_swap(self):
        # What a copy tells between its near doors goes over to the other pair of the next one.
        net = (("a", "b", "c", "d", "e", "f"),
               (("p", "a", "d", 1, 1), ("q", "b", "e", 1, 1), ("r", "c", "f", 1, 1), ("s", "a", "b", 30, 1),
                ("t", "b", "c", 20, 1), ("u", "d", "e", 9, 1)))
        for far in itertools.permutations("def"):
            self.check_lengths((net, ("a", "b", "c"), far), 10)

    def test_near_part_is_as_small_as_its_table(self):
        far = part_of(endless(CALM))
        net, near, _ = chain(CALM, 9)
        self.assertIs(alike((net, near), far), True)

    def test_large_links(self):
        source = random.Random(208)
        for most in (9, 10 ** 39):
            net = calm_net(source, 40, 60, most)
            doors = tuple(source.sample(net[0], 6))
            link = (net, doors[:3], doors[3:])
            far = longest(link)
            self.assertIsNot(far, 0)
            if far is None:
                self.assertEqual(near_costs(link, MANY), endless(link).rows())
            else:
                self.assertIsNotNone(chain_table(link, far))
                self.assertIsNone(chain_table(link, far + 1))
            self.assertEqual(chain_table(link, 1), table_of((net, doors)))
            goes_round(link)
        self.assertEqual(longest((wild_net(source, 40, 60, HUGE), ("w00",), ("w39",))), 0)


class RoundTest(unittest.TestCase):

    def check_lags(self, link):
        found = even_lags(link)
        net, near, far = link
        many = len(net[0])
        if found is None:
            self.assertIs(goes_round(link), False)
            return 0
        self.assertIs(goes_round(link), True)
        self.assertEqual((type(found), len(found)), (tuple, many))
        lag = dict(zip(net[0], found))
        self.assertEqual([lag[door] for door in near], [lag[door] for door in far])
        for _, start, end, room, notice in net[1]:
            self.assertIs((notice - 1) * many < lag[start] - lag[end] < room * many, True)
        self.assertIsNone(longest(link))
        return 1

    def test_circles(self):
        source = random.Random(209)
        links = random_links(source, 200) + [STEP, CALM, ZIG]
        free = 0
        for link in links:
            free += self.check_lags(link)
            for many in (2, 3, 4):
                self.assertIs(never_held(circle(link, many)), goes_round(link), (link, many))
        self.assertLess(50, free)
        self.assertLess(free, len(links) - 50)

    def test_never_held_in_a_chain_but_in_a_circle(self):
        self.assertEqual((longest(CALM), even_lags(CALM), goes_round(CALM)), (None, None, False))
        both = ((("a", "b"), (("p", "a", "b", 5, 1),)), ("a",), ("b",))
        self.assertEqual((longest(both), goes_round(both)), (None, False))
        self.assertIsNotNone(lags(both[0]))

    def test_edges(self):
        # a is to be ahead of m by less than 2, and b by more than 1: both fit just for rooms of 2.
        for room, notice, free in ((2, 2, True), (1, 1, True), (1, 2, False), (2, 3, False)):
            link = ((("a", "b", "m"), (("p", "a", "m", room, 1), ("q", "b", "m", 5, notice))), ("a",), ("b",))
            self.assertEqual(self.check_lags(link), free)
            self.assertIs(never_held(circle(link, 2)), free)
        self.assertEqual(self.check_lags((TWO_GROUPS, ("a", "d"), ("b", "c"))),
                         never_held(circle((TWO_GROUPS, ("a", "d"), ("b", "c")), 2)))

    def test_large_links(self):
        source = random.Random(210)
        for most in (9, 10 ** 39):
            net = calm_net(source, 40, 60, most)
            for near, far in ((("w00",), ("w39",)), (("w01", "w02", "w03"), ("w05", "w06", "w07"))):
                self.check_lags((net, near, far))
        lag = {worker: place % 3 for place, worker in enumerate(net[0])}
        queues = [(f"q{place:02}",) + tuple(sorted(source.sample(net[0], 2), key=lag.get)[::-1]) for place in range(60)]
        rows = tuple((name, start, end, HUGE * (lag[start] - lag[end]) + 1, HUGE * (lag[start] - lag[end]))
                     for name, start, end in queues if lag[start] > lag[end])
        self.assertEqual(self.check_lags(((net[0], rows), ("w00", "w01", "w02"), ("w03", "w04", "w05"))), 1)


class CallTest(unittest.TestCase):

    def test_calls(self):
        check_call(self, is_link, thing=STEP)
        for link in (STEP, CALM, ZIG):
            check_call(self, chain, link=link, many=3)
            check_call(self, circle, link=link, many=3)
            check_call(self, glued, link=link, other=link)
            for function in (longest, settled, even_lags, goes_round):
                check_call(self, function, link=link)
            self.assertEqual(endless(listed(link)), endless(link=link))
            self.assertEqual(chain_table(listed(link), 2), chain_table(link=link, many=2))


if __name__ == "__main__":
    unittest.main()

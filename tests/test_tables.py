"""Parts of nets, and tables between their doors."""

import itertools
import random
import unittest

from joinlags.errors import NoDoor, NoFit, NoTable
from joinlags.judge import never_held, shows_never
from joinlags.nets import is_net
from joinlags.tables import (Table, alike, extended, foil, is_part, is_table, joined, needs, part_of, stands_for,
                             table_of)
from checks import check_call, check_error
from ring_sums import cheapest_ways
from samples import (ALONE, BARE, CYCLE, DOUBLE, FORK, HUGE, TWO_GROUPS, WIDE, calm_net, listed, random_net,
                     small_nets, wild_net)
from test_nets import STRANGE, nested

MANY = 10 ** 42
ONE = ((0,),)
PAIR = ((0, 4), (-2, 0))
APART = ((0, None), (None, 0))
THREE = ((0, 2, 6), (3, 0, 4), (1, -2, 0))
SOME = ((0, 2, None), (3, 0, None), (None, None, 0))


def random_part(source, many, queues=5, room=4):
    """A PART of so many doors in which nobody can be held in most cases."""
    while True:
        net = source.choice(small_nets(source, 1, 6, queues, room))
        if len(net[0]) >= many:
            return net, tuple(source.sample(net[0], many))


def random_table(source, many, **bounds):
    while True:
        table = table_of(random_part(source, many, **bounds))
        if table is not None:
            return table


def all_rows(many, low, high, empty=True):
    """All rows of so many entries on each side, 0 on the slope, from low to high or None."""
    entries = [None] * empty + list(range(low, high + 1))
    for row in itertools.product(entries, repeat=many * many - many):
        rest = list(row)
        yield tuple(tuple(0 if i == j else rest.pop() for j in range(many)) for i in range(many))


def is_table_by_words(rows):
    """What the definition says of rows of numbers and None, all as long as there are rows."""
    top = 10 ** 90
    value = [[top if entry is None else entry for entry in row] for row in rows]
    many = range(len(rows))
    for i in many:
        if rows[i][i] != 0:
            return False
        for j in many:
            if i != j and (rows[i][j] is None) != (rows[j][i] is None):
                return False
            if i != j and rows[i][j] is not None and rows[i][j] + rows[j][i] < 1:
                return False
            if any(value[i][j] > min(top, value[i][m] + value[m][j]) for m in many if None not in (
                    rows[i][m], rows[m][j])):
                return False
            if rows[i][j] is None and any(None not in (rows[i][m], rows[m][j]) for m in many):
                return False
    return True


def at_most(entry, other):
    return other is None or (entry is not None and entry <= other)


def surroundings(many, numbers=(1, 2, 3)):
    """All PARTs of so many doors alone with at most one queue of these rooms and notices."""
    doors = tuple(f"x{place}" for place in range(many))
    yield (doors, ()), doors
    for start, end in itertools.permutations(doors, 2):
        for room in numbers:
            for notice in range(1, room + 1):
                yield (doors, (("y", start, end, room, notice),)), doors


class IsPartTest(unittest.TestCase):

    def test_parts(self):
        for part in ((FORK, ("a",)), (FORK, ("s", "a", "d")), (FORK, FORK[0]), (ALONE, ("z",)), (CYCLE, ("t", "i")),
                     (TWO_GROUPS, ("e", "a"))):
            self.assertIs(is_part(part), True)
            self.assertIs(is_part(listed(part)), False)
        self.assertIs(is_part(thing=(BARE, ("b", "a"))), True)

    def test_no_parts(self):
        bad = (FORK[0], FORK[1][::-1])
        for thing in ((FORK, ()), (FORK, ("a", "a")), (FORK, ("x",)), (FORK, ("a", "x")), (FORK, ("p",)),
                      (FORK, ["a"]), [FORK, ("a",)], (listed(FORK), ("a",)), (FORK, "a"), (FORK, "as"), (FORK,),
                      (FORK, ("a",), ()), (("a",), FORK), (bad, ("a",)), (FORK, (("a",),)), (FORK, (["a"],)),
                      (FORK, (None,)), (FORK, (True,)), (FORK, ("a", 1)), (FORK, ("a", nested(9))), (FORK, ("",)),
                      (FORK, None), (None, ("a",)), ((), ()), (FORK, ("a", None)), (FORK, ("d", "a", "d"))):
            self.assertIs(is_part(thing), False, thing)

    def test_strange_values(self):
        for thing in STRANGE:
            self.assertIs(is_part(thing), False, thing)
            self.assertIs(is_part((FORK, thing)), thing == ("a",), thing)
            self.assertIs(is_part((FORK, (thing,))), thing == "a", thing)
            self.assertIs(is_part((thing, ("a",))), False, thing)


class IsTableTest(unittest.TestCase):

    def test_tables(self):
        for rows in (ONE, PAIR, APART, THREE, SOME, ((0, 1), (0, 0)), ((0, -MANY), (MANY + 1, 0)),
                     ((0, MANY * MANY), (0, 0))):
            self.assertIs(is_table(rows), True, rows)
            self.assertIs(is_table(listed(rows)), False)
        self.assertIs(is_table(thing=ONE), True)

    def test_no_tables(self):
        for thing in ((), ((),), ((1,),), ((-1,),), ((None,),), ((False,),), (("0",),), ((0, 0),), ((0,), (0,)),
                      ((0, 1),), (0,), 0, "0", ([0],), [(0,)], ((0, 0), (0, 0)), ((0, 3), (-3, 0)), ((0, 3), (-4, 0)),
                      ((0, None), (1, 0)), ((0, 1), (None, 0)), ((0, 1), (1, 1)), ((1, 1), (1, 0)), ((0, 1), (1,)),
                      ((0, 1, 1), (1, 0)), ((0, 1), (1, 0), (1, 1)), ((0, True), (1, 0)), ((0, 1), (True, 0)),
                      ((0, 1), (1, False)), ((0, "1"), (1, 0)), ((0, (1,)), (1, 0)), ((0, 1), [1, 0]), ((0, 1), None),
                      ((0, 1), 1), ((0, 1), "10"), ((0, nested(9)), (1, 0)), ((None, 1), (1, 0))):
            self.assertIs(is_table(thing), False, thing)

    def test_sums_of_three_doors(self):
        for rows, expected in ((((0, 2, 6), (3, 0, 4), (1, -2, 0)), True), (((0, 2, 7), (3, 0, 4), (1, -2, 0)), False),
                               (((0, 2, 6), (3, 0, 4), (2, -2, 0)), False), (((0, 2, 5), (3, 0, 4), (1, -2, 0)), True),
                               (((0, 2, None), (3, 0, 4), (None, -2, 0)), False), (SOME, True),
                               (((0, 1, None), (0, 0, 5), (None, 5, 0)), False), (((0,) * 3,) * 3, False),
                               (((0, None, None),) * 3, False), (((0, 1, 1), (1, 0, 1), (1, 1, 0)), True)):
            self.assertIs(is_table(rows), expected, rows)

    def test_by_words(self):
        for rows in all_rows(2, -3, 3):
            self.assertIs(is_table(rows), is_table_by_words(rows), rows)
        found = [rows for rows in all_rows(3, -1, 2) if is_table(rows)]
        self.assertEqual(found, [rows for rows in all_rows(3, -1, 2) if is_table_by_words(rows)])
        self.assertGreater(len(found), 100)

    def test_strange_values(self):
        for thing in STRANGE:
            self.assertIs(is_table(thing), False, thing)
            self.assertIs(is_table((thing,)), False, thing)
            self.assertIs(is_table(((thing,),)), thing is not False and thing == 0, thing)
            self.assertIs(is_table(((0, thing), (1, 0))), isinstance(thing, int) and thing is not True
                          and thing is not False and thing >= 0, thing)


class TableTest(unittest.TestCase):

    def test_rows(self):
        for rows in (ONE, PAIR, APART, THREE, SOME):
            table = Table(rows)
            self.assertEqual((table.rows(), len(table)), (rows, len(rows)))
            self.assertIs(type(table.rows()), tuple)
            self.assertIs(is_table(Table(listed(rows)).rows()), True)
            for i in range(len(rows)):
                for j in range(len(rows)):
                    self.assertEqual(table[i, j], rows[i][j])
        self.assertEqual(Table(rows=PAIR).rows(), PAIR)

    def test_no_table(self):
        for rows in ((()), ((),), ((1,),), ((None,),), ((0, 1),), ((0,), (0,)), ((0, 1), (1,)), ((0, 3), (-3, 0)),
                     ((0, None), (1, 0)), ((0, 1, None), (0, 0, 5), (None, 5, 0)), ((), ()), ((0,), ()), ((0, 1), ())):
            for handed in (rows, listed(rows)):
                check_error(self, NoTable, {}, lambda: Table(handed))

    def test_arguments_are_copied(self):
        rows = listed(PAIR)
        table = Table(rows)
        rows[0][1] = 9
        rows.append([])
        self.assertEqual((table.rows(), table[0, 1]), (PAIR, 4))

    def test_doors(self):
        table = Table(THREE)
        for i, j, place in ((3, 0, 3), (0, 3, 3), (-1, 0, -1), (0, -1, -1), (5, -4, 5), (-4, 5, -4), (0, HUGE, HUGE),
                            (3, 3, 3), (2, 3, 3)):
            check_error(self, NoDoor, {"place": place}, lambda: table[i, j])
            if i != j:
                check_error(self, NoDoor, {"place": place}, lambda: table.some((i, j)))
        check_error(self, NoDoor, {"place": 1}, lambda: Table(ONE)[0, 1])
        check_error(self, NoDoor, {"place": 7}, lambda: table.some((0, 2, 7, 1, -1)))
        self.assertEqual((table[2, 1], table[[2, 1]]), (-2, -2))

    def test_nobody_goes_over_it(self):
        table = Table(THREE)
        for act in (lambda: list(table), lambda: [row for row in table], lambda: iter(table), lambda: 0 in table):
            self.assertRaises(TypeError, act)

    def test_equal(self):
        self.assertEqual(Table(PAIR), Table(listed(PAIR)))
        self.assertFalse(Table(PAIR) != Table(PAIR))
        for other in (Table(APART), Table(ONE), PAIR, None, 0, "PAIR", Table(((0, 5), (-2, 0)))):
            self.assertNotEqual(Table(PAIR), other)
            self.assertNotEqual(other, Table(PAIR))

    def test_some(self):
        self.assertEqual(Table(THREE).some((2, 0)).rows(), ((0, 1), (6, 0)))
        self.assertEqual(Table(THREE).some((1,)).rows(), ONE)
        self.assertEqual(Table(SOME).some([2, 1]).rows(), APART)
        self.assertEqual(Table(THREE).some(places=(0, 1, 2)), Table(THREE))
        table = Table(THREE).some((2, 1, 0))
        for i in range(3):
            for j in range(3):
                self.assertEqual(table[i, j], THREE[2 - i][2 - j])

    def test_needed(self):
        self.assertEqual(Table(THREE).needed(), ((0, 1), (1, 0), (1, 2), (2, 1)))
        self.assertEqual(Table(SOME).needed(), ((0, 1), (1, 0)))
        self.assertEqual((Table(ONE).needed(), Table(APART).needed()), ((), ()))
        self.assertEqual(Table(PAIR).needed(), ((0, 1), (1, 0)))
        self.assertEqual(Table(((0, 2, 4), (2, 0, 2), (3, 2, 0))).needed(), ((0, 1), (1, 0), (1, 2), (2, 0), (2, 1)))

    def test_needed_by_words(self):
        source = random.Random(101)
        for _ in range(200):
            many = source.randint(1, 4)
            table = random_table(source, many)
            rows = table.rows()
            pairs = [(i, j) for i, j in itertools.permutations(range(many), 2) if rows[i][j] is not None
                     and all(None in (rows[i][m], rows[m][j]) or rows[i][j] < rows[i][m] + rows[m][j]
                             for m in range(many) if m not in (i, j))]
            self.assertEqual(table.needed(), tuple(pairs))

    def test_unlike_lengths(self):
        for rows, other in ((ONE, PAIR), (PAIR, THREE), (THREE, APART), (SOME, ONE)):
            one, two = Table(rows), Table(other)
            for act in (lambda: one | two, lambda: one & two, lambda: one.is_within(two), lambda: two & one):
                check_error(self, NoFit, {}, act)

    def test_other_kinds(self):
        for other in (PAIR, None, 3):
            self.assertRaises(TypeError, lambda: Table(PAIR) | other)
            self.assertRaises(TypeError, lambda: Table(PAIR) & other)


class OrderTest(unittest.TestCase):
    """Tables within one another."""

    def check_bounds(self, tables, one, two):
        """| is the least of the tables that both are within, & the greatest that is within both."""
        above = [table for table in tables if one.is_within(table) and two.is_within(table)]
        below = [table for table in tables if table.is_within(one) and table.is_within(two)]
        top = one | two
        self.assertIs(one.is_within(top) and two.is_within(top), True)
        self.assertTrue(all(top.is_within(table) for table in above))
        try:
            bottom = one & two
        except NoTable:
            self.assertEqual(below, [])
            return 0
        self.assertIs(bottom.is_within(one) and bottom.is_within(two), True)
        self.assertTrue(all(table.is_within(bottom) for table in below))
        return 1

    def test_all_of_two_doors(self):
        tables = [Table(rows) for rows in all_rows(2, -3, 3) if is_table(rows)]
        met = [self.check_bounds(tables, one, two) for one in tables for two in tables]
        self.assertLess(100, sum(met))
        self.assertLess(sum(met), len(met) - 100)

    def test_some_of_three_doors(self):
        source = random.Random(102)
        tables = [Table(rows) for rows in all_rows(3, -1, 2) if is_table(rows)]
        for _ in range(60):
            self.check_bounds(tables, *source.sample(tables, 2))

    def test_is_within(self):
        for rows, other, expected in ((PAIR, PAIR, True), (PAIR, APART, True), (APART, PAIR, False),
                                      (PAIR, ((0, 4), (-1, 0)), True), (PAIR, ((0, 3), (-1, 0)), False),
                                      (SOME, ((0, 2, None), (3, 0, None), (None, None, 0)), True)):
            self.assertIs(Table(rows).is_within(Table(other)), expected)
        self.assertIs(Table(PAIR).is_within(other=Table(PAIR)), True)

    def least_sums(self, one, two):
        """The least sums along rows of doors of which each step is taken from either; None if a ring has none."""
        many = range(len(one))
        step = {(i, j): min((table[i, j] for table in (one, two) if table[i, j] is not None), default=None)
                for i in many for j in many}
        def total(row):
            costs = [step[pair] for pair in zip(row, row[1:])]
            return None if None in costs else sum(costs)
        for size in range(2, len(one) + 1):
            for row in itertools.permutations(many, size):
                ring = total(row + row[:1])
                if ring is not None and ring <= 0:
                    return None
        def least(i, j):
            rows = [(i,) + row + (j,) for size in range(len(one) - 1)
                    for row in itertools.permutations([m for m in many if m not in (i, j)], size)]
            return min((total(row) for row in rows if total(row) is not None), default=None)
        return tuple(tuple(0 if i == j else least(i, j) for j in many) for i in many)

    def test_sums_along_rows_of_doors(self):
        source = random.Random(103)
        met = 0
        for _ in range(300):
            many = source.randint(1, 4)
            one, two = random_table(source, many, room=6), random_table(source, many, room=6)
            rows = self.least_sums(one, two)
            if rows is None:
                check_error(self, NoTable, {}, lambda: one & two)
                continue
            met += 1
            self.assertEqual((one & two).rows(), rows)
            self.assertEqual((one | two).rows(), tuple(
                tuple(a if at_most(b, a) else b for a, b in zip(*pair)) for pair in zip(one.rows(), two.rows())))
        self.assertGreater(met, 100)
        self.assertLess(met, 290)

    def test_sums_of_just_0_and_1(self):
        self.assertEqual((Table(((0, 4), (9, 0))) & Table(((0, 9), (-3, 0)))).rows(), ((0, 4), (-3, 0)))
        check_error(self, NoTable, {}, lambda: Table(((0, 3), (9, 0))) & Table(((0, 9), (-3, 0))))
        low = Table(((0, 2, None), (-1, 0, None), (None, None, 0)))
        high = Table(((0, None, 3), (None, 0, None), (-2, None, 0)))
        self.assertEqual((low & high).rows(), ((0, 2, 3), (-1, 0, 2), (-2, 0, 0)))
        # The ring over the three doors takes a step of each.
        one = Table(((0, None, None), (None, 0, -4), (None, 5, 0)))
        for entry, free in ((3, True), (2, False), (1, False)):
            other = Table(((0, 2, 4), (9, 0, 9), (entry, entry + 2, 0)))
            self.assertEqual(self.least_sums(one, other) is not None, free)
            if free:
                self.assertEqual((one & other).rows(), ((0, 2, -2), (-1, 0, -4), (3, 5, 0)))
            else:
                check_error(self, NoTable, {}, lambda: one & other)

    def test_great_entries(self):
        one = Table(((0, MANY), (1 - MANY, 0)))
        two = Table(((0, MANY + 1), (-MANY, 0)))
        self.assertEqual((one | two).rows(), ((0, MANY + 1), (1 - MANY, 0)))
        check_error(self, NoTable, {}, lambda: one & two)
        self.assertEqual((one & Table(APART)), one)
        # Sums grow with each round of doors where there is a ring below 0.
        rows = tuple(tuple(MANY * (i - j) + (i > j) for j in range(30)) for i in range(30))
        turned = Table(rows).some(tuple(range(29, -1, -1)))
        check_error(self, NoTable, {}, lambda: Table(rows) & turned)

    def test_operands_stay(self):
        one, two = Table(PAIR), Table(((0, 3), (0, 0)))
        for _ in range(2):
            self.assertEqual(((one | two).rows(), (one & two).rows()), (((0, 4), (0, 0)), ((0, 3), (-2, 0))))
        self.assertEqual((one.rows(), two.rows()), (PAIR, ((0, 3), (0, 0))))


class TableOfTest(unittest.TestCase):

    def test_ways(self):
        source = random.Random(104)
        without = 0
        for net in small_nets(source, 250, 6, 6, 4):
            doors = tuple(source.sample(net[0], source.randint(1, len(net[0]))))
            table = table_of((net, doors))
            if not never_held(net):
                self.assertIsNone(table)
                without += 1
                continue
            rows = [[cheapest_ways(net, door).get(other) for other in doors] for door in doors]
            self.assertEqual(listed(table.rows()), rows, (net, doors))
            self.assertIs(is_table(table.rows()), True)
            self.assertIs(is_table_by_words(table.rows()), True)
        self.assertLess(50, without)
        self.assertLess(without, 450)

    def test_edges(self):
        self.assertEqual(table_of((ALONE, ("z",))), Table(ONE))
        self.assertEqual(table_of((BARE, ("b", "a"))), Table(APART))
        self.assertEqual(table_of((WIDE, ("d",))), Table(ONE))
        self.assertEqual(table_of((WIDE, ("s", "d", "a"))).rows(), ((0, 5, 3), (-4, 0, -2), (-2, 3, 0)))
        for part in ((FORK, ("a",)), (CYCLE, ("s", "t")), (CYCLE, ("s",)), (DOUBLE, ("a", "b"))):
            self.assertEqual(table_of(part) is None, not never_held(part[0]))
        # Somebody can be held where no door is near.
        net = (("a", "b", "c"), (("p", "b", "c", 1, 1), ("q", "c", "b", 1, 1)))
        self.assertIsNone(table_of((net, ("a",))))

    def test_large_nets(self):
        source = random.Random(105)
        for most in (9, 10 ** 39):
            net = calm_net(source, 40, 60, most)
            doors = tuple(source.sample(net[0], 6))
            table = table_of((net, doors))
            self.assertIs(is_table(table.rows()), True)
            self.assertIs(alike((net, doors), part_of(table)), True)
            self.assertEqual(table_of((net, net[0])).some([net[0].index(door) for door in doors]), table)
        self.assertIsNone(table_of((wild_net(source, 40, 60, HUGE), ("w00", "w39"))))


class PartOfTest(unittest.TestCase):

    def check_part(self, table):
        """The part is as the document describes it, and has just this Table."""
        part = part_of(table)
        net, doors = part
        self.assertIs(is_part(part), True, table.rows())
        self.assertEqual(doors, tuple(f"d{place}" for place in range(len(table))))
        self.assertEqual(table_of(part), table)
        queues, workers = [], list(doors)
        for i, j in itertools.combinations(range(len(table)), 2):
            if {(i, j), (j, i)}.isdisjoint(table.needed()):
                continue
            if table[j, i] <= 0:
                queues.append((f"q{i}.{j}", f"d{i}", f"d{j}", table[i, j], 1 - table[j, i]))
            elif table[i, j] <= 0:
                queues.append((f"q{j}.{i}", f"d{j}", f"d{i}", table[j, i], 1 - table[i, j]))
            else:
                workers.append(f"w{i}.{j}")
                queues.append((f"q{i}.{j}", f"d{i}", f"w{i}.{j}", table[i, j], 1))
                queues.append((f"q{j}.{i}", f"d{j}", f"w{i}.{j}", table[j, i], 1))
        self.assertEqual(net, (tuple(sorted(workers)), tuple(sorted(queues))))

    def test_all_small_tables(self):
        for rows in itertools.chain(all_rows(2, -3, 3), all_rows(3, -1, 2)):
            if is_table(rows):
                self.check_part(Table(rows))

    def test_other_tables(self):
        source = random.Random(106)
        for rows in (ONE, PAIR, APART, THREE, SOME, ((0, MANY), (1 - MANY, 0)), ((0, -MANY), (MANY + 1, 0)),
                     ((0, MANY), (MANY, 0))):
            self.check_part(Table(rows))
        for _ in range(200):
            self.check_part(random_table(source, source.randint(1, 6), queues=9, room=9))

    def test_more_than_ten_doors(self):
        # The NAME d10 comes ahead of d2, the door does not.
        table = Table([[0 if i == j else 1 for j in range(12)] for i in range(12)])
        self.check_part(table)
        self.assertIs(is_net(part_of(table)[0]), True)

    def test_smallest(self):
        self.assertEqual(part_of(Table(PAIR)), ((("d0", "d1"), (("q0.1", "d0", "d1", 4, 3),)), ("d0", "d1")))
        self.assertEqual(part_of(Table(((0, -2), (4, 0))))[0][1], (("q1.0", "d1", "d0", 4, 3),))
        self.assertEqual(part_of(Table(((0, 0), (1, 0))))[0][1], (("q1.0", "d1", "d0", 1, 1),))
        self.assertEqual(part_of(Table(((0, 1), (1, 0))))[0][1], (("q0.1", "d0", "w0.1", 1, 1), ("q1.0", "d1", "w0.1", 1, 1)))
        self.assertEqual(part_of(table=Table(APART)), ((("d0", "d1"), ()), ("d0", "d1")))
        # Only (0, 1) is needed, but (1, 0) has its entry too.
        table = Table(((0, 1, 5), (4, 0, 4), (0, 1, 0)))
        self.assertEqual(table.needed(), ((0, 1), (1, 2), (2, 0)))
        self.check_part(table)


class JoinedTest(unittest.TestCase):

    def test_names(self):
        part = ((("a", "m", "z"), (("p", "a", "m", 2, 1), ("q", "m", "z", 3, 3))), ("z", "a"))
        other = ((("a", "b", "m"), (("p", "b", "a", 4, 2), ("r", "m", "b", 5, 1))), ("b", "a"))
        self.assertEqual(joined(part, other), (
            ("a.a", "a.m", "a.z", "b.m"),
            (("a.p", "a.a", "a.m", 2, 1), ("a.q", "a.m", "a.z", 3, 3), ("b.p", "a.z", "a.a", 4, 2),
             ("b.r", "b.m", "a.z", 5, 1))))
        self.assertEqual(joined((ALONE, ("z",)), (ALONE, ("z",))), (("a.z",), ()))
        self.assertEqual(joined((BARE, ("a",)), (BARE, ("b",))), (("a.a", "a.b", "b.a"), ()))

    def test_the_same_part(self):
        part = (FORK, ("s", "d"))
        self.assertEqual(joined(part, part), (
            ("a.a", "a.d", "a.s", "b.a"),
            (("a.p", "a.s", "a.a", 3, 3), ("a.q", "a.a", "a.d", 3, 3), ("a.r", "a.s", "a.d", 4, 1),
             ("b.p", "a.s", "b.a", 3, 3), ("b.q", "b.a", "a.d", 3, 3), ("b.r", "a.s", "a.d", 4, 1))))

    def test_nets(self):
        source = random.Random(107)
        for _ in range(200):
            many = source.randint(1, 3)
            part, other = random_part(source, many), random_part(source, many)
            net = joined(part, other)
            self.assertIs(is_net(net), True)
            self.assertEqual(len(net[0]), len(part[0][0]) + len(other[0][0]) - many)
            self.assertEqual(len(net[1]), len(part[0][1]) + len(other[0][1]))

    def test_somebody_is_held_just_if_the_tables_say_so(self):
        source = random.Random(108)
        seen = []
        for _ in range(600):
            many = source.randint(1, 3)
            part, other = random_part(source, many), random_part(source, many)
            mine, their = table_of(part), table_of(other)
            free = never_held(joined(part, other))
            seen.append(free)
            if mine is None or their is None:
                self.assertIs(free, False)
                continue
            try:
                table = mine & their
            except NoTable:
                self.assertIs(free, False)
                continue
            self.assertIs(free, True)
            doors = tuple("a." + door for door in part[1])
            self.assertEqual(table_of((joined(part, other), doors)), table)
        self.assertLess(50, sum(seen))
        self.assertLess(sum(seen), 550)

    def test_no_fit(self):
        one, two, three = (WIDE, ("a",)), (WIDE, ("a", "d")), (FORK, ("s", "a", "d"))
        for part, other in ((one, two), (two, one), (two, three), (three, one), (one, three)):
            for function in (joined, alike, stands_for, foil):
                check_error(self, NoFit, {}, lambda: function(part, other))


class AlikeTest(unittest.TestCase):

    def check_foil(self, part, other):
        """foil tells two parts apart, or there is nothing that does."""
        found = foil(part, other)
        self.assertIs(stands_for(part, other), found is None)
        self.assertIs(alike(part, other), stands_for(part, other) and stands_for(other, part))
        if found is None:
            for part_around in surroundings(len(part[1])):
                if never_held(joined(other, part_around)):
                    self.assertIs(never_held(joined(part, part_around)), True, (part, other, part_around))
            return 0
        self.assertIs(is_part(found), True, found)
        self.assertEqual((sorted(found[1]), len(found[1])), (sorted(found[0][0]), len(part[1])))
        self.assertLessEqual(len(found[0][1]), 1)
        self.assertIs(never_held(joined(other, found)), True, (part, other, found))
        self.assertIs(never_held(joined(part, found)), False, (part, other, found))
        return 1

    def test_small_parts(self):
        source = random.Random(109)
        seen = 0
        for _ in range(400):
            many = source.randint(1, 3)
            seen += self.check_foil(random_part(source, many, room=3), random_part(source, many, room=3))
        self.assertLess(50, seen)
        self.assertLess(seen, 380)

    def test_all_tables_of_two_doors(self):
        parts = [part_of(Table(rows)) for rows in all_rows(2, -2, 3) if is_table(rows)]
        for part in parts:
            for other in parts:
                self.check_foil(part, other)
                self.assertIs(alike(part, other), part == other)

    def test_parts_are_as_their_tables(self):
        source = random.Random(110)
        for _ in range(150):
            many = source.randint(1, 3)
            part, around = random_part(source, many), random_part(source, many)
            table = table_of(part)
            if table is not None:
                small = part_of(table)
                self.assertIs(alike(part, small) and alike(small, part), True)
                self.assertEqual(never_held(joined(part, around)), never_held(joined(small, around)))
                self.assertEqual(self.check_foil(part, small), 0)

    def test_parts_in_which_somebody_is_held(self):
        held, other, free = (FORK, ("a", "d")), (CYCLE, ("s", "t")), (WIDE, ("a", "d"))
        self.assertEqual((alike(held, other), stands_for(held, other), foil(held, other)), (True, True, None))
        self.assertEqual((alike(held, free), stands_for(free, held), foil(free, held)), (False, True, None))
        self.assertIs(stands_for(held, free), False)
        self.assertEqual(self.check_foil(held, free), 1)
        self.assertEqual(foil(held, free)[0][1], ())

    def test_great_entries(self):
        one, two = Table(((0, -MANY), (MANY + 5, 0))), Table(((0, -MANY + 1), (MANY + 5, 0)))
        for part, other in ((one, two), (two, one)):
            self.check_foil(part_of(part), part_of(other))
        self.assertIs(stands_for(part_of(two), part_of(one)), True)
        self.assertIs(stands_for(part_of(one), part_of(two)), False)
        # A queue of this entry as its room would hold somebody in the other one, too.
        low, high = Table(((0, -5), (9, 0))), Table(((0, 4), (-1, 0)))
        self.assertEqual(self.check_foil(part_of(low), part_of(high)), 1)


class NeedsTest(unittest.TestCase):

    def test_entries(self):
        self.assertEqual(needs((WIDE, ("s", "d"))), (5, -4))
        self.assertEqual(needs((BARE, ("a", "b"))), (None, None))
        self.assertEqual(needs(part_of(Table(PAIR))), (3, -3))
        self.assertIsNone(needs((FORK, ("a", "d"))))
        for doors in (("a",), ("a", "d", "s")):
            for net in (FORK, WIDE):
                check_error(self, NoFit, {}, lambda: needs((net, doors)))

    def test_what_is_around(self):
        source = random.Random(111)
        free = 0
        for _ in range(500):
            part, other = random_part(source, 2), random_part(source, 2)
            asked, table = needs(part), table_of(other)
            if asked is None:
                self.assertIsNone(table_of(part))
                continue
            enough = table is not None and (asked[0] is None or at_most(asked[0], table[0, 1])) and (
                asked[1] is None or at_most(asked[1], table[1, 0]))
            self.assertIs(never_held(joined(part, other)), enough, (part, other))
            free += enough
        self.assertGreater(free, 50)


class ExtendedTest(unittest.TestCase):

    def check_extended(self, part, lags, scale):
        net, doors = part
        many = len(net[0])
        found = extended(part, lags, scale)
        table = table_of(part)
        pairs = itertools.permutations(range(len(doors)), 2)
        expected = table is not None and all(table[i, j] is None or lags[i] - lags[j] < scale * table[i, j]
                                             for i, j in pairs)
        self.assertIs(found is not None, expected, (part, lags, scale))
        if found is None:
            return 0
        self.assertEqual((type(found), len(found)), (tuple, many))
        lag = dict(zip(net[0], found))
        for place, door in enumerate(doors):
            self.assertEqual(lag[door], many * lags[place])
        for _, start, end, room, notice in net[1]:
            gap = lag[start] - lag[end]
            self.assertIs((notice - 1) * scale * many < gap < room * scale * many, True)
        if scale == 1:
            self.assertIs(shows_never(net, found), True)
        return 1

    def test_small_parts(self):
        source = random.Random(112)
        found = 0
        for _ in range(1500):
            part = random_part(source, source.randint(1, 4))
            scale = source.randint(1, 3)
            found += self.check_extended(part, [source.randint(-4, 9) for _ in part[1]], scale)
        self.assertLess(200, found)
        self.assertLess(found, 1300)

    def test_just_the_entry_and_one_below(self):
        source = random.Random(113)
        seen = 0
        for net in small_nets(source, 100, 5, 6, 4):
            if len(net[0]) < 2 or not never_held(net):
                continue
            doors = tuple(source.sample(net[0], 2))
            (_, entry), (back, _) = table_of((net, doors)).rows()
            for scale in (1, 2, MANY):
                if entry is None:
                    self.assertEqual(self.check_extended((net, doors), (MANY, -MANY), scale), 1)
                    continue
                seen += 1
                for below in (0, 1, 2):
                    free = 0 < below < scale * (entry + back)
                    self.assertEqual(self.check_extended((net, doors), (scale * entry - below + 7, 7), scale), free)
        self.assertGreater(seen, 100)

    def test_edges(self):
        self.assertEqual(extended((ALONE, ("z",)), (5,), 9), (5,))
        self.assertEqual(extended((BARE, ("b", "a")), (-3, MANY), 1), (2 * MANY, -6))
        self.assertEqual(self.check_extended((WIDE, ("d",)), (-7,), 1), 1)
        self.assertIsNone(extended((FORK, ("d",)), (0,), 1))
        self.assertIsNone(extended((CYCLE, ("s",)), (0,), MANY))

    def test_large_nets(self):
        source = random.Random(114)
        for most in (9, 10 ** 39):
            net = calm_net(source, 40, 60, most)
            doors = tuple(source.sample(net[0], 6))
            table = table_of((net, doors))
            for scale in (1, MANY):
                # The entries to one door, less 1, are lags that fit but for what is just too much.
                lags = [0 if table[place, 0] is None else scale * table[place, 0] - place for place in range(6)]
                self.check_extended((net, doors), lags, scale)
                self.check_extended((net, doors[:2]), lags[:2], scale)


class CallTest(unittest.TestCase):

    def test_calls(self):
        part, other = (WIDE, ("s", "d")), (BARE, ("b", "a"))
        check_call(self, is_part, thing=part)
        check_call(self, is_table, thing=PAIR)
        for function in (alike, stands_for, joined, foil):
            check_call(self, function, part=part, other=other)
            check_call(self, function, part=other, other=part)
        check_call(self, needs, part=part)
        check_call(self, extended, part=part, lags=(9, 0), scale=2)
        check_call(self, extended, part=part, lags=(10, 0), scale=2)
        self.assertEqual(table_of(listed(part)), table_of(part=part))
        self.assertEqual(part_of(table=Table(PAIR)), part_of(Table(PAIR)))


if __name__ == "__main__":
    unittest.main()

"""Runs: what a net does with given drops."""

import itertools
import random
import unittest

from joinlags import errors
from joinlags.errors import Dead, Full, NoQueue, NothingDone, NoWorker, Silent
from joinlags.nets import groups, idle, is_counts
from joinlags.runs import Run, closes, held, order_to, stands
from reference import Model, closed, numbers_of, reached
from samples import BARE, CYCLE, DOUBLE, FORK, listed, random_cases, random_deaths, random_drops, random_net

NET = (("a", "d", "s"), (("p", "s", "a", 2, 2), ("q", "a", "d", 1, 1), ("r", "s", "d", 3, 2)))
DROPS = (("p", 1), ("q", 1), ("r", 1))


def picture(run, net):
    """All that a Run tells of its state."""
    return (run.counts(), [run.messages(queue[0]) for queue in net[1]], len(run), run.ready(),
            [run.passed(worker) for worker in net[0]], [worker in run for worker in net[0]])


def picture_of(model):
    """What a Run in the same state must tell."""
    ready = tuple(worker for worker in model.net[0] if model.error(worker) is None)
    rows = [model.holds[queue[0]] for queue in model.net[1]]
    return (model.counts(), rows, sum(len(row) for row in rows), ready,
            list(model.counts()), [worker in ready for worker in model.net[0]])


class RunCase(unittest.TestCase):

    def check_error(self, error, attributes, act):
        with self.assertRaises(error) as caught:
            act()
        self.assertIs(type(caught.exception), error)
        self.assertEqual(vars(caught.exception), attributes)

    def check_refused(self, run, worker, error, attributes):
        """An advance is refused, and nothing is changed by that."""
        twin, counts = run.twin(), run.counts()

        def act():
            twice = run
            twice += worker

        self.check_error(error, attributes, act)
        self.assertEqual(run, twin)
        self.assertEqual(run.counts(), counts)

    def undone(self, run):
        """How many things can be undone."""
        twin, many = run.twin(), 0
        while True:
            try:
                twin.back()
            except NothingDone:
                return many
            many += 1


class RunTest(RunCase):

    def test_the_beginning(self):
        run = Run(NET, DROPS)
        self.assertEqual(picture(run, NET), ((0, 0, 0), [[], [], []], 0, ("s",), [0, 0, 0], [False, False, True]))

    def test_by_names_and_by_lists(self):
        run = Run(net=listed(NET), drops=listed(DROPS), deaths=[["s", 2]])
        self.assertEqual(run, Run(NET, DROPS, deaths=(("s", 2),)))
        self.assertEqual(run.settle(many=9), (2, 2, 2))
        self.assertEqual((run.passed(worker="s"), run.messages(queue="p")), (2, []))
        with self.assertRaises(TypeError):
            Run(NET, DROPS, ())

    def test_it_keeps_copies(self):
        net, drops, deaths = listed(NET), listed(DROPS), [["s", 2]]
        run = Run(net, drops, deaths=deaths)
        net[0].append("z")
        net[1][0][3] = 100
        drops.clear()
        deaths[0][1] = 0
        self.assertEqual(run, Run(NET, DROPS, deaths=(("s", 2),)))
        self.assertEqual(run.settle(1), Run(NET, DROPS, deaths=(("s", 2),)).settle(1))
        self.assertEqual(run.counts(), (0, 0, 1))

    def test_the_arguments_are_not_changed(self):
        net, drops, deaths = listed(NET), listed(DROPS), [["s", 2]]
        run = Run(net, drops, deaths=deaths)
        run.settle(9)
        held(net, drops, deaths=deaths), closes(net, drops, [None, 0, 1]), order_to(net, drops, [0, 0, 1])
        stands(net, drops, [0, 0, 1])
        self.assertEqual((net, drops, deaths), (listed(NET), listed(DROPS), [["s", 2]]))

    def test_lists_are_new(self):
        run = Run(NET, ())
        run += "s"
        run.messages("p").clear()
        self.assertEqual(run.messages("p"), [(1, "item")])

    def test_no_worker_and_no_queue(self):
        run = Run(NET, DROPS)
        self.check_error(NoWorker, {"worker": "p"}, lambda: run.passed("p"))
        self.check_error(NoQueue, {"queue": "s"}, lambda: run.messages("s"))
        self.check_refused(run, "p", NoWorker, {"worker": "p"})
        self.assertIs("p" in run, False)
        self.assertIs("zz" in run, False)

    def test_a_worker_and_a_queue_of_the_same_name(self):
        net = (("p", "q"), (("p", "p", "q", 1, 1), ("q", "p", "q", 2, 2)))
        run = Run(net, (("q", 1),), deaths=(("q", 0),))
        run += "p"
        self.assertEqual((run.messages("p"), run.messages("q")), ([(1, "item")], []))
        self.check_refused(run, "q", Dead, {"worker": "q"})
        self.check_refused(run, "p", Full, {"queue": "p"})

    def test_dead_comes_before_silent(self):
        run = Run(NET, (), deaths=(("d", 0), ("s", 1)))
        self.check_refused(run, "d", Dead, {"worker": "d"})
        self.check_refused(run, "a", Silent, {"queue": "p"})
        self.assertEqual(run.ready(), ("s",))
        run += "s"
        self.check_refused(run, "s", Dead, {"worker": "s"})
        self.assertEqual((run.ready(), "s" in run), (("a",), False))

    def test_the_least_silent_queue(self):
        run = Run(NET, ())
        self.check_refused(run, "d", Silent, {"queue": "q"})
        run += "s"
        self.check_refused(run, "d", Silent, {"queue": "q"})
        run += "a"
        run += "d"
        self.check_refused(run, "d", Silent, {"queue": "q"})
        late = Run(NET, (("r", 1),))
        late += "s"
        late += "a"
        self.check_refused(late, "d", Silent, {"queue": "r"})

    def test_silent_comes_before_full(self):
        net = (("a", "b", "c"), (("p", "b", "c", 1, 1), ("q", "a", "b", 1, 1)))
        run = Run(net, ())
        run += "a"
        run += "b"
        self.check_refused(run, "b", Silent, {"queue": "q"})
        run += "a"
        self.check_refused(run, "b", Full, {"queue": "p"})

    def test_the_least_full_queue(self):
        net = (("a", "b"), (("p", "a", "b", 2, 1), ("q", "a", "b", 1, 1), ("r", "a", "b", 1, 1)))
        run = Run(net, ())
        run += "a"
        self.check_refused(run, "a", Full, {"queue": "q"})
        same = (net[0], tuple((queue[0], "a", "b", 1, 1) for queue in net[1]))
        full = Run(same, ())
        full += "a"
        self.check_refused(full, "a", Full, {"queue": "p"})

    def test_nothing_to_send_needs_no_room(self):
        net = (("a", "b"), (("p", "a", "b", 3, 3),))
        run = Run(net, (("p", 4), ("p", 5), ("p", 6)))
        for _ in range(5):
            run += "a"
        self.assertEqual(run.messages("p"), [(1, "item"), (2, "item"), (3, "item")])
        self.check_refused(run, "a", Full, {"queue": "p"})
        run += "b"
        run += "a"
        self.assertEqual(run.messages("p"), [(2, "item"), (3, "item"), (6, "notice")])
        self.check_refused(run, "a", Full, {"queue": "p"})

    def test_a_message_is_taken_only_at_its_number(self):
        net = (("a", "b"), (("p", "a", "b", 3, 3),))
        run = Run(net, (("p", 1), ("p", 2)))
        for _ in range(3):
            run += "a"
        self.assertEqual(run.messages("p"), [(3, "item")])
        for _ in range(2):
            run += "b"
            self.assertEqual(run.messages("p"), [(3, "item")])
        run += "b"
        self.assertEqual((run.messages("p"), len(run), run.counts()), ([], 0, (3, 3)))

    def test_notices(self):
        net = (("a", "b"), (("p", "a", "b", 12, 3),))
        run = Run(net, tuple(("p", number) for number in (1, 2, 3, 4, 5, 7, 8, 9, 10, 12, 13)))
        for _ in range(16):
            run += "a"
        self.assertEqual(run.messages("p"), [(3, "notice"), (6, "item"), (9, "notice"), (11, "item"), (14, "item"),
                                             (15, "item"), (16, "item")])

    def test_as_many_numbers_in_a_row_as_the_notice_hold_a_message(self):
        source = random.Random(2)
        for notice in (1, 2, 3, 5):
            net = (("a", "b"), (("p", "a", "b", 99, notice),))
            drops = random_drops(source, net, 40)
            run = Run(net, drops)
            for _ in range(60):
                run += "a"
            numbers = [number for number, _ in run.messages("p")]
            self.assertEqual(numbers, numbers_of(net[1][0], drops, 60))
            for first in range(1, 61 - notice):
                self.assertTrue(any(first <= number < first + notice for number in numbers))

    def test_with_rooms_without_bounds(self):
        net = (("a", "b"), (("p", "a", "b", 10 ** 40, 10 ** 40),))
        run = Run(net, (("p", 1), ("p", 2), ("p", 200)))
        self.assertEqual(run.settle(200), (200, 199))
        run += "a"
        self.assertEqual(run.messages("p"), [(201, "item")])
        run += "b"
        self.assertEqual((run.counts(), run.messages("p")), ((201, 200), [(201, "item")]))

    def test_settle(self):
        run = Run(NET, DROPS)
        self.assertEqual(run.settle(0), (0, 0, 0))
        self.assertEqual(run.settle(1), (0, 0, 1))
        self.assertEqual(run.settle(2), (2, 2, 2))
        self.assertEqual(run.settle(200), (200, 200, 200))
        self.assertEqual(run.settle(5), (200, 200, 200))

    def test_settle_of_one_who_is_ahead(self):
        run = Run(NET, ())
        for _ in range(2):
            run += "s"
        self.assertEqual(run.settle(1), (1, 1, 2))

    def test_settle_with_deaths(self):
        run = Run(NET, (), deaths=(("d", 2),))
        self.assertEqual(run.settle(4), (3, 2, 4))
        self.assertEqual(run.settle(90), (3, 2, 5))
        self.assertEqual(run.ready(), ())

    def test_idle_workers_stay(self):
        run = Run(CYCLE, ())
        self.assertEqual(run.ready(), ("s",))
        self.assertEqual(run.settle(50), (0, 0, 1, 0))
        self.check_refused(run, "t", Silent, {"queue": "c"})
        self.check_refused(run, "s", Full, {"queue": "d"})
        self.check_refused(run, "i", Silent, {"queue": "b"})

    def test_workers_without_queues(self):
        run = Run(BARE, (), deaths=(("a", 3),))
        run += "b"
        self.assertEqual((run.settle(200), len(run)), ((3, 200), 0))

    def test_rows_of_advances_as_the_document_tells_them(self):
        source = random.Random(5)
        for _ in range(300):
            net = random_net(source, 5, 7, 3)
            drops, deaths = random_drops(source, net, 8), random_deaths(source, net, 8)
            run, model = Run(net, drops, deaths=deaths), Model(net, drops, deaths)
            for _ in range(40):
                worker = source.choice(net[0])
                error = model.error(worker)
                if error is None:
                    run += worker
                    model.advance(worker)
                else:
                    kind = getattr(errors, error[0])
                    self.check_refused(run, worker, kind, vars(kind(error[1])))
                self.assertEqual(picture(run, net), picture_of(model))

    def test_settle_does_what_any_order_does(self):
        source = random.Random(6)
        for net, drops, deaths in random_cases(7, 150, True):
            run, model = Run(net, drops, deaths=deaths), Model(net, drops, deaths)
            for many in (2, 5, 9):
                able = True
                while able:
                    able = [worker for worker in net[0] if model.passed[worker] < many and model.error(worker) is None]
                    if able:
                        model.advance(source.choice(able))
                self.assertEqual(run.settle(many), model.counts())
                self.assertEqual(picture(run, net), picture_of(model))
                self.assertTrue(is_counts(net, run.counts()))


class BackTest(RunCase):

    def test_nothing_done(self):
        run = Run(NET, DROPS)
        self.check_error(NothingDone, {}, run.back)
        run += "s"
        self.assertIsNone(run.back())
        self.check_error(NothingDone, {}, run.back)
        self.assertEqual(run, Run(NET, DROPS))

    def test_a_settle_that_changes_nothing(self):
        run = Run(NET, DROPS)
        run += "s"
        run.settle(0)
        run.settle(1)
        self.assertEqual(self.undone(run), 3)
        for expected in (1, 1, 0):
            self.assertIsNone(run.back())
            self.assertEqual(run.passed("s"), expected)
        self.check_error(NothingDone, {}, run.back)

    def test_what_is_refused_is_nothing_to_undo(self):
        run = Run(NET, DROPS)
        run += "s"
        for worker, error, value in (("a", Silent, {"queue": "p"}), ("x", NoWorker, {"worker": "x"})):
            self.check_refused(run, worker, error, value)
        self.assertEqual(self.undone(run), 1)
        run.ready(), run.counts(), run.messages("p"), len(run), "s" in run, run.twin(), run.passed("s")
        self.assertEqual(self.undone(run), 1)

    def test_all_back(self):
        source = random.Random(8)
        for net, drops, deaths in random_cases(9, 100, True):
            run, seen = Run(net, drops, deaths=deaths), []
            for _ in range(12):
                seen.append(picture(run, net))
                if run.ready() and source.random() < 0.7:
                    run += source.choice(run.ready())
                else:
                    run.settle(source.randint(0, 4))
            while seen:
                run.back()
                self.assertEqual(picture(run, net), seen.pop())
            self.check_error(NothingDone, {}, run.back)

    def test_on_again_after_back(self):
        run = Run(NET, DROPS)
        run.settle(5)
        run.back()
        run += "s"
        self.assertEqual((run.counts(), self.undone(run)), ((0, 0, 1), 1))


class TwinTest(RunCase):

    def test_a_twin_and_its_past(self):
        run = Run(NET, DROPS, deaths=(("a", 3),))
        run += "s"
        run.settle(2)
        twin = run.twin()
        self.assertEqual(picture(twin, NET), picture(run, NET))
        self.assertEqual(twin, run)
        self.assertIsNot(twin, run)
        twin.back()
        self.assertEqual((twin.counts(), run.counts()), ((0, 0, 1), (2, 2, 2)))
        self.assertEqual((self.undone(twin), self.undone(run)), (1, 2))
        twin.back()
        self.check_error(NothingDone, {}, twin.back)
        run += "s"
        self.assertEqual((twin.counts(), run.counts()), ((0, 0, 0), (2, 2, 3)))
        self.assertEqual(twin.settle(9), (3, 3, 5))
        self.assertEqual(run.settle(9), (3, 3, 5))
        self.assertEqual(run, twin)
        self.assertEqual((self.undone(run), self.undone(twin)), (4, 1))

    def test_what_is_done_to_the_first_is_not_seen(self):
        run = Run(NET, DROPS)
        run += "s"
        twin = run.twin()
        run.back()
        self.assertEqual((run.counts(), twin.counts(), self.undone(twin)), ((0, 0, 0), (0, 0, 1), 1))
        self.assertNotEqual(run, twin)

    def test_equal(self):
        run = Run(NET, DROPS, deaths=(("a", 3),))
        self.assertTrue(run == Run(listed(NET), listed(DROPS), deaths=[["a", 3]]))
        wide = (NET[0], NET[1][:2] + (("r", "s", "d", 4, 2),))
        for other in (Run(wide, DROPS, deaths=(("a", 3),)), Run(NET, DROPS[:2], deaths=(("a", 3),)), Run(NET, DROPS),
                      Run(NET, DROPS, deaths=(("a", 4),)), Run(NET, DROPS, deaths=(("s", 3),)),
                      Run(NET, DROPS, deaths=(("a", 3), ("s", 3))), None, 0, (0, 0, 0), NET, "run", [run]):
            self.assertFalse(run == other)
            self.assertTrue(run != other)

    def test_the_past_does_not_count(self):
        run, other = Run(NET, ()), Run(NET, ())
        run += "s"
        self.assertNotEqual(run, other)
        other.settle(0)
        other += "s"
        self.assertEqual(run, other)


class HeldTest(RunCase):

    def test_held(self):
        self.assertEqual(held(net=listed(FORK), drops=[["p", 3], ["p", 4], ["q", 1], ["q", 2]]), (2, 0, 4))
        self.assertEqual(held(FORK, ()), (None, None, None))
        self.assertEqual(held(FORK, (("p", 3), ("p", 4), ("q", 1))), (None, None, None))
        self.assertEqual(held(BARE, ()), (None, None))

    def test_idle_workers_hold_their_group(self):
        self.assertEqual(idle(CYCLE), ("i", "j", "t"))
        self.assertEqual(held(CYCLE, ()), (0, 0, 1, 0))
        self.assertEqual(held(CYCLE, (("d", 1), ("d", 3))), (0, 0, 1, 0))
        net = (CYCLE[0] + ("x", "y"), CYCLE[1] + (("e", "x", "y", 1, 1),))
        self.assertEqual(held(net, ()), (0, 0, 1, 0, None, None))

    def test_deaths(self):
        self.assertEqual(held(NET, (), deaths=(("s", 0),)), (0, 0, 0))
        self.assertEqual(held(NET, (), deaths=[["d", 0]]), (1, 0, 3))
        self.assertEqual(held(NET, (), deaths=(("a", 3), ("d", 2), ("s", 4))), (3, 2, 4))
        self.assertEqual(held(NET, (), deaths=(("a", 3), ("d", 9), ("s", 4))), (3, 3, 4))
        self.assertEqual(held(NET, DROPS, deaths=(("s", 200),)), (200, 200, 200))
        self.assertEqual(held(BARE, (), deaths=(("b", 7),)), (None, 7))
        self.assertEqual(held(BARE, (), deaths=(("a", 0), ("b", 0))), (0, 0))

    def test_a_death_in_another_group(self):
        net = (("a", "b", "c", "d"), (("p", "a", "b", 2, 2), ("q", "c", "d", 3, 1)))
        self.assertEqual(held(net, (), deaths=(("d", 4),)), (None, None, 7, 4))
        self.assertEqual(held(net, (("p", 1), ("p", 2), ("q", 9)), deaths=(("a", 1),)), (1, 0, None, None))

    def test_the_greatest_bounds(self):
        workers = tuple("abcdefghij")
        queues = tuple((f"q{place}", workers[place], workers[place + 1], 12, 12) for place in range(9))
        drops = tuple((queue[0], number) for queue in queues for number in range(90, 200))
        ends = held((workers, queues), drops, deaths=(("j", 100),))
        self.assertEqual(ends[9], 100)
        self.assertTrue(closes((workers, queues), drops, ends[:9] + (None,)) is False)
        self.assertEqual(held((workers, queues), drops), (None,) * 10)

    def test_no_one_passes_more_and_all_pass_as_much(self):
        for net, drops, deaths in random_cases(12, 120, True):
            ends = held(net, drops, deaths=deaths)
            self.assertEqual(len(ends), len(net[0]))
            counts = reached(net, drops, deaths, 7)
            for place, end in enumerate(ends):
                most = max(row[place] for row in counts)
                if end is None:
                    self.assertEqual(most, 7)
                elif most < 7:
                    # Whoever is stopped ahead of the limit may wait for one who is at it.
                    self.assertLessEqual(most, end)
                else:
                    self.assertGreaterEqual(end, 7)

    def test_ends_of_small_nets(self):
        compared = 0
        for net, drops, deaths in random_cases(13, 200, True):
            ends = held(net, drops, deaths=deaths)
            if max(end or 0 for end in ends) >= 9:
                continue
            compared += 1
            limits = Model(net, drops, deaths)
            for _ in range(60):
                for worker in net[0]:
                    if limits.error(worker) is None:
                        limits.advance(worker)
            for end, count in zip(ends, limits.counts()):
                self.assertEqual(count, end) if end is not None else self.assertGreater(count, 40)
        self.assertGreater(compared, 100)

    def test_a_group_is_held_or_not_as_a_whole(self):
        kinds = set()
        for net, drops, deaths in random_cases(14, 300, True):
            ends = dict(zip(net[0], held(net, drops, deaths=deaths)))
            for group in groups(net):
                free = [ends[worker] is None for worker in group]
                self.assertEqual(len(set(free)), 1)
                if any(worker in dict(deaths) for worker in group) or set(group) & set(idle(net)):
                    self.assertFalse(free[0])
                kinds.add((free[0], len(group) > 1))
        self.assertEqual(len(kinds), 4)

    def test_a_run_that_settles_comes_to_the_ends(self):
        for net, drops, deaths in random_cases(15, 200, True):
            counts = Run(net, drops, deaths=deaths).settle(150)
            for end, count in zip(held(net, drops, deaths=deaths), counts):
                self.assertEqual(count, 150 if end is None else end)


class ClosesTest(RunCase):

    def test_ends_with_none(self):
        self.assertIs(closes(net=FORK, drops=(), ends=(None, None, None)), True)
        self.assertIs(closes(listed(FORK), [], [None, None, 0]), False)
        self.assertIs(closes(BARE, (), (0, None)), False)
        self.assertIs(closes(CYCLE, (), (0, 0, None, None)), True)
        self.assertIs(closes(CYCLE, (), (0, None, None, None)), False)
        self.assertIs(closes(CYCLE, (), (0, 0, 1, 0)), True)
        self.assertIs(closes(CYCLE, (), (0, 0, 0, 0)), False)

    def test_rows_that_no_run_has(self):
        # The start is behind its end, so none of the numbers lies between.
        net = (("a", "b"), (("p", "a", "b", 2, 1),))
        self.assertIs(closes(net, (), (None, 5)), False)
        self.assertIs(closes(net, (), (3, 5)), False)
        self.assertIs(closes(net, (), (5, 3)), False)
        self.assertIs(closes(CYCLE, (), (7, 9, 8, 7)), False)
        self.assertIs(closes(CYCLE, (), (7, 7, 7, 7)), False)
        self.assertIs(closes(CYCLE, (), (7, 7, 8, 7)), True)
        self.assertIs(closes(CYCLE, (), (7, 7, 100, 7)), True)

    def test_as_the_document_tells_it(self):
        found = {True: 0, False: 0}
        entries = (None, 0, 1, 2, 3, 4, 6)
        for net, drops, _ in random_cases(16, 60, False):
            if len(net[0]) > 3:
                continue
            for ends in itertools.product(entries, repeat=len(net[0])):
                told = closes(net, drops, ends)
                self.assertIs(told, closed(net, drops, ends), (net, drops, ends))
                found[told] += 1
        self.assertGreater(min(found.values()), 100)

    def test_nobody_is_beyond_ends_that_close(self):
        for net, drops, _ in random_cases(17, 60, False):
            ends = held(net, drops)
            self.assertIs(closes(net, drops, ends), True)
            counts = reached(net, drops, (), 6)
            for place, end in enumerate(ends):
                self.assertTrue(end is None or max(row[place] for row in counts) <= end)


class StandsTest(RunCase):

    def check_order(self, net, drops, counts):
        """The order leads to these counts; any order that does will do."""
        order = order_to(net, drops, counts)
        self.assertIsInstance(order, tuple)
        run = Run(net, drops)
        for worker in order:
            run += worker
        self.assertEqual(run.counts(), tuple(counts))

    def test_all_rows(self):
        found = {True: 0, False: 0}
        for net, drops, _ in random_cases(18, 60, False):
            counts = reached(net, drops, (), 4)
            for row in itertools.product(range(5), repeat=len(net[0])):
                found[row in counts] += 1
                self.assertIs(stands(net, drops, row), row in counts)
                if row in counts:
                    self.check_order(net, drops, row)
                else:
                    self.assertIsNone(order_to(net, drops, row))
        self.assertGreater(min(found.values()), 500)

    def test_by_names_and_by_lists(self):
        drops = [["p", 3], ["p", 4], ["q", 1], ["q", 2]]
        self.assertIs(stands(net=listed(FORK), drops=drops, counts=[0, 0, 4]), True)
        self.assertEqual(order_to(net=listed(FORK), drops=drops, counts=[0, 0, 0]), ())
        self.check_order(FORK, drops, [2, 0, 4])
        self.assertIsNone(order_to(FORK, drops, [3, 0, 4]))

    def test_several_queues_between_two_workers(self):
        drops = (("q", 2),)
        self.assertIs(stands(DOUBLE, drops, (2, 0)), True)
        self.assertIs(stands(DOUBLE, drops, (3, 0)), False)
        self.assertIs(stands(DOUBLE, drops, (3, 1)), True)
        self.check_order(DOUBLE, drops, (3, 1))

    def test_idle_workers(self):
        self.assertIs(stands(CYCLE, (), (0, 0, 1, 0)), True)
        self.assertIs(stands(CYCLE, (), (0, 1, 0, 0)), False)
        self.assertIs(stands(CYCLE, (), (0, 0, 2, 0)), False)
        self.check_order(CYCLE, (), (0, 0, 1, 0))

    def test_the_greatest_bounds(self):
        drops = tuple((queue[0], number) for queue in NET[1] for number in range(1, 200))
        self.check_order(NET, drops, (200, 200, 200))
        self.check_order(BARE, (), (200, 0))


class SameAnswerTest(RunCase):

    def test_the_same_call_returns_the_same(self):
        for net, drops, deaths in random_cases(19, 60, True):
            rows = listed(net), listed(drops), listed(deaths)
            self.assertEqual(held(net, drops, deaths=deaths), held(rows[0], rows[1], deaths=rows[2]))
            counts = Run(net, drops).settle(5)
            self.assertEqual(order_to(net, drops, counts), order_to(rows[0], rows[1], list(counts)))
            self.assertEqual(order_to(net, drops, counts), order_to(counts=counts, drops=drops, net=net))


class NoAccountTest(RunCase):

    def test_drops_that_are_of_no_account(self):
        # With the notice 1 a notice takes the place of each item that is left out.
        net = (("a", "b"), (("p", "a", "b", 2, 1),))
        plain, dropped = Run(net, ()), Run(net, (("p", 1), ("p", 2), ("p", 9)))
        for _ in range(2):
            plain += "a"
            dropped += "a"
        self.assertEqual(dropped.messages("p"), [(1, "notice"), (2, "notice")])
        self.assertEqual((plain.counts(), plain.ready(), len(plain)), (dropped.counts(), dropped.ready(), len(dropped)))
        self.assertNotEqual(plain, dropped)

    def test_drops_that_nobody_comes_to(self):
        drops = (("p", 150), ("p", 151))
        run = Run(FORK, drops, deaths=(("s", 3),))
        self.assertEqual(run.settle(200), (3, 3, 3))
        self.assertEqual(held(FORK, drops, deaths=(("s", 3),)), held(FORK, (), deaths=(("s", 3),)))
        self.assertEqual(held(CYCLE, (("a", 5), ("c", 1))), held(CYCLE, ()))
        self.assertEqual(Run(CYCLE, (("a", 1),)).settle(9), (0, 0, 1, 0))


if __name__ == "__main__":
    unittest.main()

"""The guarantees of the overview: what the parts of the program tell together, on small nets."""

import random
import unittest

from joinlags.chains import chain, chain_table, circle, glued, goes_round, longest
from joinlags.desk import answers
from joinlags.early import can_be_left, drops_that_leave, earliest, lasso, least_left, need, price
from joinlags.judge import (bad_ring, cheapest_ring, fewest_drops, holding, is_bad_ring, lags, never_held, shows_never,
                            sprung)
from joinlags.nests import Nest
from joinlags.nets import Way, is_drops, is_net, slack
from joinlags.reach import can_stand, lead_counts, lead_price, leads_over, most_counts, way_to
from joinlags.runs import Run, closes, held, order_to, stands
from joinlags.stops import can_stop, first_stops, is_deaths, last_stops, stop_drops
from joinlags.tables import Table, alike, extended, foil, is_part, is_table, joined, part_of, table_of
from joinlags.texts import (deaths_in, deaths_text, drops_in, drops_text, ends_in, ends_text, net_in, net_text, part_in,
                            part_text, rows_in, rows_text, steps_in, steps_text)
from joinlags.tune import filled, full, greatest_notice, limits, raised, sure_sets
from joinlags.yard import Yard
from samples import random_cases, random_nest, small_nets


def nets(seed, many=40):
    return small_nets(random.Random(seed), many, 4, 5, 3)


class WholeTest(unittest.TestCase):

    def test_a_what_given_drops_do(self):
        for net, drops, deaths in random_cases(701, 80, True):
            ends = held(net, drops, deaths=deaths)
            self.assertIs(can_stop(net, deaths, ends), True)
            if not deaths:
                self.assertIs(closes(net, drops, ends), True)
                self.assertTrue(all(end is None for end in ends) or not never_held(net))
            counts = Run(net, drops).settle(4)
            self.assertIs(stands(net, drops, counts) and can_stand(net, counts) and can_be_left(net, 4, counts), True)
            self.assertLessEqual(price(net, 4, counts), len(drops))
            run = Run(net, drops)
            for worker in order_to(net, drops, counts):
                run += worker
            self.assertEqual(run.counts(), counts)

    def test_b_what_all_drops_do(self):
        for net in nets(702):
            for place, worker in enumerate(net[0]):
                leads = leads_over(net, worker)
                for other, most in zip(net[0], leads):
                    if most is not None:
                        self.assertIsNone(lead_price(net, other, worker, most + 1))
                        counts = lead_counts(net, other, worker, most)
                        self.assertEqual(counts[net[0].index(other)] - counts[place], most)
                        self.assertEqual(len(way_to(net, counts)[0]), lead_price(net, other, worker, most))
            self.assertIs(can_stand(net, most_counts(net)), True)

    def test_c_never_held_or_a_ring(self):
        for net in nets(703):
            numbers, ring = lags(net), bad_ring(net)
            self.assertIs(numbers is None, ring is not None)
            self.assertIs(never_held(net), slack(net) is None or slack(net) > 0)
            if ring is None:
                self.assertIs(shows_never(net, numbers), True)
                self.assertEqual((holding(net), fewest_drops(net), cheapest_ring(net)), (None, None, None))
                continue
            drops = holding(net)
            self.assertIs(is_bad_ring(net, ring) and is_drops(net, drops), True)
            self.assertEqual(len(drops), fewest_drops(net))
            self.assertNotEqual(set(held(net, drops)), {None})
            more, ends = sprung(net, ring, 3)
            self.assertIs(closes(net, more, ends), True)

    def test_d_how_early(self):
        for net in nets(704):
            early = earliest(net)
            many = 30
            counts = least_left(net, many)
            self.assertEqual([count for count, end in zip(counts, early) if end is not None], [end for end in early if end is not None])
            drops = drops_that_leave(net, many, counts)
            self.assertEqual((Run(net, drops).settle(many), len(drops)), (counts, price(net, many, counts)))
            for worker, end in zip(net[0], early):
                pair = lasso(net, worker)
                self.assertEqual(None if pair is None else need(pair[0] + pair[1]), end)
            self.assertIs(None in early or not never_held(net), True)

    def test_e_notices(self):
        for net in nets(705):
            for name, _, _, room, notice in net[1]:
                bounds = limits(net, name)
                best = greatest_notice(net, name)
                for other in range(1, room + 1):
                    free = never_held(raised(net, name, room, other))
                    self.assertIs(free, best is not None and other <= best)
                    self.assertIs(free, bounds is not None and room >= bounds[1] and (bounds[0] is None or other <= bounds[0]))
            order = [queue[0] for queue in net[1]][::-1]
            self.assertIs(filled(net, order) is not None, never_held(net))
            if never_held(net):
                self.assertIs(full(filled(net, order)), True)
                self.assertEqual(sure_sets(net), [()])

    def test_f_parts_and_tables(self):
        source = random.Random(706)
        for net in nets(707):
            doors = tuple(source.sample(net[0], source.randint(1, len(net[0]))))
            table = table_of((net, doors))
            self.assertIs(table is not None, never_held(net))
            if table is None:
                continue
            small = part_of(table)
            self.assertEqual((alike((net, doors), small), foil(small, (net, doors)), table_of(small)), (True, None, table))
            yard = Yard(joined((net, doors), small))
            self.assertIs(yard.never_held(), True)
            self.assertEqual(yard.table(["a." + door for door in doors]), table & table)
            self.assertEqual(table & table, table)
            numbers = lags(net)
            place = {worker: number for worker, number in zip(net[0], numbers)}
            self.assertIsNotNone(extended((net, doors), [place[door] for door in doors], len(net[0])))

    def test_g_chains_and_nests(self):
        nest = Nest("block step a c b d\nqueue p b a 3 3\nqueue q d c 1 1\nqueue r a c 9 1\nblock two a c b d\nuse x step a c m n\n"
                    "use y step m n b d\nblock four a c b d\nuse x two a c m n\nuse y two m n b d\nblock eight a c b d\n"
                    "use x four a c m n\nuse y four m n b d")
        net, doors = nest.unfolded("step")
        link = (net, doors[:2], doors[2:])
        for block, many in (("step", 1), ("two", 2), ("four", 4), ("eight", 8)):
            self.assertEqual(nest.table(block), chain_table(link, many))
            laid = chain(link, many)
            self.assertEqual(nest.size(block), (len(laid[0][0]), len(laid[0][1])))
            self.assertEqual(nest.table(block), table_of((laid[0], laid[1] + laid[2])))
            self.assertEqual(nest.longest(block), longest(link) // many)
            self.assertEqual(nest.row(block, 1), table_of(nest.unfolded(block)))
        self.assertEqual(table_of((glued(link, link)[0], glued(link, link)[1] + glued(link, link)[2])), nest.table("two"))
        self.assertIs(never_held(circle(link, 2)), goes_round(link))
        told = answers(nest.text() + "\n\nlongest step\nheld\nset step r 7 1\nheld\nring\nback\nheld")
        self.assertEqual((told[:4], told[5:]), (["9", "-", "done", "eight"], ["done", "-"]))

    def test_h_deaths(self):
        source = random.Random(708)
        for net in nets(709):
            deaths = tuple((worker, source.randint(0, 5)) for worker in net[0] if source.random() < 0.4)
            first, last = first_stops(net, deaths), last_stops(net, deaths)
            self.assertIs(first is None, not never_held(net))
            for ends in (first, last):
                if ends is not None:
                    self.assertEqual(held(net, stop_drops(net, deaths, ends), deaths=deaths), ends)

    def test_i_a_net_that_changes(self):
        for net in nets(710):
            yard = Yard(net)
            told = yard.lags() or yard.ring()
            yard.hire("z")
            yard.back()
            self.assertEqual(yard.lags() or yard.ring(), told)

    def test_returned_values_are_as_they_are_called(self):
        source = random.Random(711)
        for net in nets(712):
            doors = net[0][:2]
            table = table_of((net, doors))
            self.assertEqual(net_in(net_text(net)), net)
            self.assertEqual(part_in(part_text((net, doors))), (net, doors))
            if table is not None:
                self.assertIs(is_table(rows_in(rows_text(table.rows()))), True)
                self.assertEqual(Table(rows_in(rows_text(table.rows()))), table)
                self.assertIs(is_part(part_in(part_text(part_of(table)))), True)
                deaths = ((source.choice(net[0]), source.randint(0, 9)),)
                self.assertIs(is_deaths(net, deaths_in(net, deaths_text(deaths))), True)
                ends = first_stops(net, deaths)
                self.assertEqual(ends_in(net, ends_text(net, ends)), ends)
                drops = stop_drops(net, deaths, ends)
                self.assertEqual(drops_in(net, drops_text(drops)), drops)
            else:
                ring = steps_in(net, steps_text(bad_ring(net)))
                self.assertIs(is_bad_ring(net, ring), True)
                self.assertEqual(drops_in(net, drops_text(holding(net))), holding(net))
        for _ in range(20):
            nest = Nest(random_nest(source, 3))
            for block in nest.blocks():
                self.assertIs(is_net(net_in(net_text(nest.unfolded(block)[0]))), True)

    def test_ways_over_rings_of_nests(self):
        source = random.Random(713)
        for _ in range(60):
            nest = Nest(random_nest(source, 4))
            if nest.first_held() is not None:
                net = nest.unfolded(nest.first_held())[0]
                steps = [nest.ring_queue(place) for place in range(nest.ring_sums()[0])]
                name, side = steps[0]
                start, end, _, _ = nest.queue_at(nest.first_held(), name)
                way = Way(net, start if side == "along" else end, [name for name, _ in steps])
                self.assertEqual((way.steps(), way.is_bad()), (tuple(steps), True))
                self.assertEqual(way.cost(), nest.ring_sums()[1] - nest.ring_sums()[2])


if __name__ == "__main__":
    unittest.main()

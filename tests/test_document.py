"""The examples of the document, word for word."""

import unittest

from joinlags import (chains, desk, early, errors, judge, nests, nets, reach, runs, stops, tables, texts, tune,
                      yard)
from examples import check_examples

MODULES = (errors, nets, runs, reach, judge, early, tune, stops, tables, chains, nests, yard, texts, desk)
NAMES = {name: value for module in MODULES for name, value in vars(module).items()}

NETS = r'''
    >>> fork = (("a", "d", "s"), (("p", "s", "a", 3, 3), ("q", "a", "d", 3, 3), ("r", "s", "d", 4, 1)))
    >>> is_net(fork), is_net((("a", "b"), (("p", "a", "b", 1, 2),))), is_counts(fork, (0, 0, 4)), is_drops(fork, (("p", 3), ("p", 1)))
    (True, False, True, False)
    >>> incoming(fork, "d"), outgoing(fork, "d"), groups((("a", "b", "c"), (("p", "c", "a", 1, 1),)))
    (('q', 'r'), (), [('a', 'c'), ('b',)])
    >>> idle((("i", "j", "s", "t"), (("a", "i", "j", 1, 1), ("b", "j", "i", 1, 1), ("c", "j", "t", 1, 1), ("d", "s", "t", 1, 1))))
    ('i', 'j', 't')
    >>> way = Way(fork, "s", ("r", "q", "p"))
    >>> way.steps(), way.workers(), way.cost(), way.is_ring(), way.is_bad(), len(way), "q" in way
    ((('r', 'along'), ('q', 'against'), ('p', 'against')), ('s', 'd', 'a', 's'), 0, True, True, 3, True)
    >>> back = -way
    >>> back.steps(), back.cost(), (way + back).cost(), (way * 2).is_ring(), (Way(fork, "s", ("r",)) + Way(fork, "d", ("q", "p"))) == way
    ((('p', 'along'), ('q', 'along'), ('r', 'against')), 6, 6, False, True)
    >>> Way(fork, "s", ("r", "p"))
    raises NoStep(place=1)
    >>> rings(fork)
    [(('p', 'against'), ('r', 'along'), ('q', 'against')), (('q', 'along'), ('r', 'against'), ('p', 'along'))]
    >>> slack(fork), slack((("a", "b"), (("p", "a", "b", 2, 1),)))
    (0, None)
'''

RUNS = r'''
    >>> net = (("a", "d", "s"), (("p", "s", "a", 2, 2), ("q", "a", "d", 1, 1), ("r", "s", "d", 3, 2)))
    >>> run = Run(net, (("p", 1), ("q", 1), ("r", 1)))
    >>> run += "s"
    >>> run.counts(), run.messages("p"), "a" in run, len(run)
    ((0, 0, 1), [], False, 0)
    >>> run += "a"
    raises Silent(queue='p')
    >>> run += "s"
    >>> run += "a"
    >>> run.messages("q"), run.messages("p"), run.counts(), run.ready()
    ([(1, 'notice')], [(2, 'item')], (1, 0, 2), ('d', 's'))
    >>> run += "a"
    raises Full(queue='q')
    >>> run.settle(3), run.back(), run.counts(), held(net, (("p", 1), ("q", 1), ("r", 1)))
    ((3, 3, 3), None, (1, 0, 2), (None, None, None))
    >>> held(net, (), deaths=(("d", 2),))
    (3, 2, 5)
    >>> stopped = Run(net, (), deaths=(("s", 0),))
    >>> stopped += "s"
    raises Dead(worker='s')
    >>> fork = (("a", "d", "s"), (("p", "s", "a", 3, 3), ("q", "a", "d", 3, 3), ("r", "s", "d", 4, 1)))
    >>> drops = (("p", 3), ("p", 4), ("q", 1), ("q", 2))
    >>> held(fork, drops), closes(fork, drops, (2, 0, 4)), closes(fork, drops, (3, 0, 4)), closes(fork, drops, (2, None, 4))
    ((2, 0, 4), True, False, False)
    >>> stands(fork, drops, (0, 0, 4)), stands(fork, drops, (3, 3, 5)), order_to(fork, drops, (1, 0, 1))
    (True, False, ('s', 'a'))
'''

REACH = r'''
    >>> net = (("a", "d", "s"), (("p", "s", "a", 2, 2), ("q", "a", "d", 1, 1), ("r", "s", "d", 3, 2)))
    >>> can_stand(net, (1, 0, 6)), can_stand(net, (2, 0, 6)), len(way_to(net, (1, 0, 6))[0]), way_to(net, (0, 1, 1))
    (True, False, 6, None)
    >>> leads_over(net, "d"), leads_over(net, "a"), leads_over((("i", "j", "s", "t"), (("a", "s", "i", 1, 1), ("b", "i", "j", 1, 1), ("c", "j", "i", 1, 1), ("d", "s", "t", 3, 3))), "t")
    ((1, 0, 6), (0, 0, 5), (0, 0, 1, 0))
    >>> most_messages(net), most_messages((("a", "d", "s"), (("p", "s", "a", 1, 1), ("q", "a", "d", 1, 1), ("r", "s", "d", 9, 1))))
    (6, 4)
    >>> lead_price(net, "s", "d", 3), lead_price(net, "s", "d", 4), lead_price(net, "s", "d", 6), lead_price(net, "s", "d", 7), lead_price(net, "d", "s", -4)
    (0, 2, 6, None, 2)
    >>> least = lead_counts(net, "s", "d", 5)
    >>> least[2] - least[1], len(way_to(net, least)[0]), lead_price(net, "s", "d", 5), lead_counts(net, "s", "d", 7), lead_flow(net, "d", "s", 1)
    (5, 4, 4, None, None)
    >>> most = most_counts(net)
    >>> min(2, most[2] - most[0]) + min(1, most[0] - most[1]) + min(3, most[2] - most[1])
    6
'''

JUDGE = r'''
    >>> fork = (("a", "d", "s"), (("p", "s", "a", 3, 3), ("q", "a", "d", 3, 3), ("r", "s", "d", 4, 1)))
    >>> ring = (("q", "against"), ("p", "against"), ("r", "along"))
    >>> never_held(fork), lags(fork), is_bad_ring(fork, ring), is_bad_ring(fork, ring[1:]), fewest_drops(fork), len(holding(fork)), least_way(fork, "s", "d")
    (False, None, True, False, 4, 4, None)
    >>> sprung(fork, ring, 0)
    ((('p', 3), ('p', 4), ('q', 1), ('q', 2)), (2, 0, 4))
    >>> sprung(fork, ring, 5)[1]
    (7, 5, 9)
    >>> wide = (("a", "d", "s"), (("p", "s", "a", 3, 3), ("q", "a", "d", 3, 3), ("r", "s", "d", 5, 1)))
    >>> never_held(wide), shows_never(wide, (7, 0, 14)), shows_never(wide, [7, 0, 14]), lags_in(wide, 2), least_parts(wide), bad_ring(wide)
    (True, True, False, None, 3, None)
    >>> lag_room(wide, "s", "d"), lag_room(wide, "d", "s"), least_way(wide, "d", "s")
    ((4, 5), (-5, -4), (('q', 'against'), ('p', 'against')))
    >>> sprung(wide, ring, 0)
    raises NoFit()
    >>> two = (("s", "t", "w"), (("a", "s", "t", 10, 1), ("b", "s", "t", 40, 31), ("c", "t", "w", 3, 1), ("d", "t", "w", 5, 4)))
    >>> fewest_drops(two), is_bad_ring(two, (("a", "along"), ("b", "against"))), lag_room((("a", "b"), ()), "a", "b")
    (3, True, (None, None))
'''

EARLY = r'''
    >>> fork = (("a", "d", "s"), (("p", "s", "a", 3, 3), ("q", "a", "d", 3, 3), ("r", "s", "d", 4, 1)))
    >>> wide = (("a", "d", "s"), (("p", "s", "a", 3, 3), ("q", "a", "d", 3, 3), ("r", "s", "d", 5, 1)))
    >>> can_be_left(fork, 9, (2, 0, 4)), can_be_left(fork, 9, (3, 1, 5)), can_be_left(fork, 9, (2, 1, 5)), can_be_left(fork, 9, (9, 9, 9))
    (True, True, False, True)
    >>> price(fork, 9, (2, 0, 4)), price(fork, 9, (9, 9, 9)), price(fork, 9, (2, 1, 5)), price(fork, 3, (1, 0, 3))
    (4, 0, None, 3)
    >>> drops_that_leave(fork, 3, (1, 0, 3))
    (('p', 2), ('p', 3), ('q', 1))
    >>> least_left(fork, 3), least_left(fork, 9), earliest(fork)
    ((1, 0, 3), (2, 0, 4), (2, 0, 4))
    >>> least_left(wide, 3), least_left(wide, 9), earliest(wide)
    ((1, 0, 3), (7, 5, 9), (None, None, None))
    >>> way = Way(fork, "s", ("r", "q", "p"))
    >>> need(way), need(-way), need(Way(fork, "d", ("q", "p", "r")))
    (4, 6, 0)
    >>> pair = lasso(fork, "a")
    >>> need(pair[0] + pair[1]), pair[1].is_bad(), lasso(wide, "a")
    (2, True, None)
    >>> behind(wide, "a"), behind(wide, "d"), behind(wide, "s"), behind(fork, "s")
    (2, 4, 0, None)
'''

TUNE = r'''
    >>> fork = (("a", "d", "s"), (("p", "s", "a", 3, 3), ("q", "a", "d", 3, 3), ("r", "s", "d", 4, 1)))
    >>> wide = (("a", "d", "s"), (("p", "s", "a", 3, 3), ("q", "a", "d", 3, 3), ("r", "s", "d", 5, 1)))
    >>> raised(fork, "r", 5, 1) == wide, limits(fork, "r"), limits(fork, "p"), limits((("a", "b"), (("p", "a", "b", 2, 1),)), "p")
    (True, (6, 5), (2, 1), (None, 1))
    >>> double = (("a", "d", "s"), (("p", "s", "a", 3, 3), ("q", "a", "d", 3, 3), ("r", "s", "d", 4, 1), ("t", "s", "a", 9, 1)))
    >>> limits(double, "t"), greatest_notice(fork, "p"), greatest_notice(fork, "r"), greatest_notice(wide, "r")
    (None, 2, None, 5)
    >>> greatest_common(fork), greatest_common(wide), greatest_common((("i", "j"), (("a", "i", "j", 1, 1), ("b", "j", "i", 1, 1))))
    (2, None, 0)
    >>> slim = raised(raised(fork, "p", 3, 1), "q", 3, 1)
    >>> filled(slim, ("p", "q", "r")) == raised(raised(fork, "q", 3, 2), "r", 4, 4), filled(slim, ("q", "p", "r")) == raised(raised(fork, "p", 3, 2), "r", 4, 4)
    (True, True)
    >>> full(slim), full(filled(slim, ("p", "q", "r"))), full(fork), filled(fork, ("p", "q", "r"))
    (False, True, False, None)
    >>> filled(fork, ("p", "q", "x"))
    raises NoQueue(queue='x')
    >>> sure_sets(fork), fewest_sure(fork), sure_sets(wide), sure_sets((("i", "j"), (("a", "i", "j", 1, 1), ("b", "j", "i", 1, 1))))
    ([('p',), ('q',)], ('p',), [()], [])
'''

STOPS = r'''
    >>> net = (("r", "s", "t"), (("p", "s", "t", 3, 3), ("q", "r", "t", 2, 1)))
    >>> first_stops(net, (("s", 1),)), last_stops(net, (("s", 1),)), first_way(net, (("s", 1),), "r")
    ((2, 1, 0), (3, 1, 1), (('q', 'along'), ('p', 'against')))
    >>> stop_drops(net, (("s", 1),), (2, 1, 0)), stop_drops(net, (("s", 1),), (3, 1, 1)), can_stop(net, (("s", 1),), (2, 1, 1)), can_stop(net, (("s", 1),), (3, 1, 0))
    ((('p', 1),), (), False, False)
    >>> first_stops(net, (("r", 0), ("t", 4))), last_stops(net, ()), can_stop(net, (), (None, None, None)), first_way(net, (("t", 4),), "t")
    ((0, 3, 0), (None, None, None), True, ())
    >>> is_deaths(net, (("s", 1), ("t", 0))), is_deaths(net, (("s", 1), ("s", 2)))
    (True, False)
    >>> fork = (("a", "d", "s"), (("p", "s", "a", 3, 3), ("q", "a", "d", 3, 3), ("r", "s", "d", 4, 1)))
    >>> first_stops(fork, (("d", 2),)), can_stop(fork, (), (2, 0, 4)), len(stop_drops(fork, (), (2, 0, 4)))
    (None, True, 4)
'''

TABLES = r'''
    >>> fork = ((("i", "j", "y"), (("p", "i", "y", 1, 1), ("q", "j", "y", 3, 3))), ("i", "j"))
    >>> table = table_of(fork)
    >>> is_part(fork), table.rows(), table[0, 1], len(table), needs(fork)
    (True, ((0, -1), (3, 0)), -1, 2, (-2, 2))
    >>> part_of(table)
    ((('d0', 'd1'), (('q1.0', 'd1', 'd0', 3, 2),)), ('d0', 'd1'))
    >>> back = ((("i", "j"), (("s", "j", "i", 1, 1),)), ("i", "j"))
    >>> table_of(back).rows(), table_of((joined(fork, back), ("a.i", "a.j"))), alike(fork, part_of(table))
    (((0, 0), (1, 0)), None, True)
    >>> stands_for(back, fork), stands_for(fork, back), foil(back, back)
    (False, False, None)
    >>> wide = Table(((0, 0), (4, 0)))
    >>> (table | wide).rows(), (table & Table(((0, 0), (2, 0)))).rows(), table.is_within(wide), table.some((1, 0)).rows()
    (((0, 0), (4, 0)), ((0, -1), (2, 0)), True, ((0, 3), (-1, 0)))
    >>> table & Table(((0, 5), (-2, 0)))
    raises NoTable()
    >>> three = Table(((0, 2, 6), (3, 0, 4), (1, -2, 0)))
    >>> three.needed(), part_of(three)[0][0], part_of(three)[0][1]
    (((0, 1), (1, 0), (1, 2), (2, 1)), ('d0', 'd1', 'd2', 'w0.1'), (('q0.1', 'd0', 'w0.1', 2, 1), ('q1.0', 'd1', 'w0.1', 3, 1), ('q1.2', 'd1', 'd2', 4, 3)))
    >>> extended(fork, (0, 2), 1)[:2], extended(fork, (0, 1), 1)
    ((0, 6), None)
'''

CHAINS = r'''
    >>> step = ((("a", "b", "c", "d"), (("p", "b", "a", 3, 3), ("q", "d", "c", 1, 1), ("r", "a", "c", 3, 1))), ("a", "c"), ("b", "d"))
    >>> is_link(step), is_link((step[0], ("a",), ("a",))), longest(step), settled(step), endless(step), goes_round(step)
    (True, False, 3, None, None, False)
    >>> chain(step, 2)
    ((('a.0', 'b.0', 'b.1', 'c.0', 'd.0', 'd.1'), (('p.0', 'b.0', 'a.0', 3, 3), ('p.1', 'b.1', 'b.0', 3, 3), ('q.0', 'd.0', 'c.0', 1, 1), ('q.1', 'd.1', 'd.0', 1, 1), ('r.0', 'a.0', 'c.0', 3, 1), ('r.1', 'b.0', 'd.0', 3, 1))), ('a.0', 'c.0'), ('b.1', 'd.1'))
    >>> chain_table(step, 1).rows()
    ((0, 3, -2, 3), (0, 0, -2, 0), (3, 6, 0, 6), (1, 1, -1, 0))
    >>> chain_table(step, 2)[0, 1], chain_table(step, 3)[0, 1], chain_table(step, 3)[0, 2], chain_table(step, 4)
    (2, 1, -6, None)
    >>> wide = ((step[0][0], (("p", "b", "a", 3, 3), ("q", "d", "c", 1, 1), ("r", "a", "c", 1000000000000, 1))), ("a", "c"), ("b", "d"))
    >>> longest(wide), chain_table(wide, 1000000000000)[0, 1], chain_table(wide, 1000000000001)
    (1000000000000, 1, None)
    >>> calm = ((step[0][0], (("p", "b", "a", 3, 3), ("q", "d", "c", 2, 1), ("r", "a", "c", 3, 1))), ("a", "c"), ("b", "d"))
    >>> longest(calm), settled(calm), endless(calm).rows(), even_lags(calm), goes_round(calm)
    (None, 1, ((0, 3), (0, 0)), None, False)
    >>> zig = ((("a", "b", "m"), (("p", "a", "m", 2, 1), ("q", "b", "m", 3, 2))), ("a",), ("b",))
    >>> circle(zig, 2)
    (('a.0', 'b.0', 'm.0', 'm.1'), (('p.0', 'a.0', 'm.0', 2, 1), ('p.1', 'b.0', 'm.1', 2, 1), ('q.0', 'b.0', 'm.0', 3, 2), ('q.1', 'a.0', 'm.1', 3, 2)))
    >>> lags = even_lags(zig)
    >>> goes_round(zig), lags[0] == lags[1], 3 < lags[0] - lags[2], lags[0] - lags[2] < 6
    (True, True, True, True)
    >>> glued(zig, zig)
    ((('a.a', 'a.b', 'a.m', 'b.b', 'b.m'), (('a.p', 'a.a', 'a.m', 2, 1), ('a.q', 'a.b', 'a.m', 3, 2), ('b.p', 'a.b', 'b.m', 2, 1), ('b.q', 'b.b', 'b.m', 3, 2))), ('a.a',), ('b.b',))
    >>> glued(zig, step)
    raises NoFit()
'''

NESTS = r'''
    >>> nest = Nest("block step a c b d\nqueue p b a 3 3\nqueue q d c 1 1\nqueue r a c 3 1\nblock two a c b d\nuse x step a c m n\nuse y step m n b d\nblock four a c b d\nuse x two a c m n\nuse y two m n b d")
    >>> nest.blocks(), len(nest), "two" in nest, nest.first_held(), nest.size("four"), nest.table("four")
    (('step', 'two', 'four'), 3, True, 'four', (10, 12), None)
    >>> nest.unfolded("two")
    ((('a', 'b', 'c', 'd', 'm', 'n'), (('x.p', 'm', 'a', 3, 3), ('x.q', 'n', 'c', 1, 1), ('x.r', 'a', 'c', 3, 1), ('y.p', 'b', 'm', 3, 3), ('y.q', 'd', 'n', 1, 1), ('y.r', 'm', 'n', 3, 1))), ('a', 'c', 'b', 'd'))
    >>> nest.table("two").rows()
    ((0, 2, -4, 1), (0, 0, -4, 0), (6, 7, 0, 6), (2, 2, -2, 0))
    >>> len(nest.held_ring()), nest.ring_sums(), nest.way_in("two", 3, 1), nest.way_in("two", 1, 1), nest.way_in("step", 3, 2)
    (4, (8, 6, 6), (('use', 'y', 3, 1), ('use', 'x', 3, 1)), (), None)
    >>> nest.ring_queue(8)
    raises NoStep(place=8)
    >>> nest.queue_at("four", "y.x.p"), nest.row("step", 3)[0, 1], nest.longest("step"), nest.longest("two")
    (('y.m', 'm', 3, 3), 1, 3, 1)
    >>> gap = nest.lag("two", "m") - nest.lag("two", "a")
    >>> 12 < gap, gap < 18, nest.lag("four", "y.m")
    (True, True, None)
    >>> freed = nest.changed("step", "q", 2, 1)
    >>> freed.first_held(), freed.held_ring(), freed.longest("four"), freed.text()[35:50]
    (None, None, None, 'queue q d c 2 1')
    >>> nest.swapped("two", "step").table("four") == nest.table("two"), freed == nest, freed.changed("step", "q", 1, 1) == nest
    (True, False, True)
    >>> nest.lag("four", "x.a")
    raises NoWorker(worker='x.a')
    >>> Nest("block one a\nuse x one a")
    raises BadLine(number=1)
'''

YARD = r'''
    >>> yard = Yard((("i", "j", "y"), (("p", "i", "y", 1, 1), ("q", "j", "y", 3, 3))))
    >>> yard["s"] = ("j", "i", 1, 1)
    >>> yard.never_held(), yard.lags(), len(yard.ring()), yard["s"], "t" in yard, len(yard)
    (False, None, 3, ('j', 'i', 1, 1), False, 3)
    >>> yard["s"] = ("j", "i", 2, 1)
    >>> told = yard.lags()
    >>> yard["p"] = ("i", "y", 9, 1)
    >>> yard.lags() == told, yard.ring(), yard.table(("j", "i")).rows()
    (True, None, ((0, 2), (0, 0)))
    >>> yard.back(), yard.small(("y",), "short"), yard.net()
    (None, None, (('i', 'j'), (('s', 'j', 'i', 2, 1), ('short.q1.0', 'j', 'i', 3, 2))))
    >>> yard.never_held(), yard.hire("z"), yard.hire("z"), yard.back(), yard.back(), len(yard)
    (True, True, False, None, None, 3)
    >>> yard["t"] = ("i", "k", 1, 1)
    raises NoWorker(worker='k')
    >>> yard["t"] = ("i", "j", 1, 2)
    raises BadQueue(queue='t')
'''

TEXTS = r'''
    >>> net = (("a", "s"), (("p", "s", "a", 3, 2), ("q", "s", "a", 4, 1)))
    >>> net_text(net), net_in("a s\np: s > a 3 2\nq: s > a 4 1") == net, net_in("z")
    ('a s\np: s > a 3 2\nq: s > a 4 1', True, (('z',), ()))
    >>> net_in("a s\np: s > a 3 4")
    raises BadLine(number=1)
    >>> part_text((net, ("s", "a"))), part_in("doors: z\nz")
    ('doors: s a\na s\np: s > a 3 2\nq: s > a 4 1', ((('z',), ()), ('z',)))
    >>> part_in("doors: y\nz")
    raises BadLine(number=2)
    >>> drops_text((("p", 1), ("p", 2), ("p", 5), ("q", 7), ("q", 8), ("q", 9))), drops_in(net, "p: 3..4 6"), drops_in(net, "")
    ('p: 1..2 5\nq: 7..9', (('p', 3), ('p', 4), ('p', 6)), ())
    >>> drops_in(net, "p: 3 4")
    raises BadLine(number=0)
    >>> ends_text(net, (3, None)), ends_in(net, "a: -\ns: 0"), deaths_in(net, "s: 4"), steps_text((("p", "along"), ("q", "against")))
    ('a: 3\ns: -', (None, 0), (('s', 4),), '+p -q')
    >>> ends_in(net, "a: 2")
    raises BadLine(number=1)
    >>> steps_in(net, "-q +q -p"), rows_text(((0, -1, None), (3, 0, None), (None, None, 0))), rows_in("0 2\n-1 0")
    ((('q', 'against'), ('q', 'along'), ('p', 'against')), '0 -1 .\n3 0 .\n. . 0', ((0, 2), (-1, 0)))
    >>> rows_in("0 2\n-2 0")
    raises BadLine(number=2)
'''

DESK = r'''
    >>> sheet = "block step a c b d\nqueue p b a 3 3\nqueue q d c 1 1\nqueue r a c 3 1\nblock four a c b d\nuse w step a c e f\nuse x step e f g h\nuse y step g h i j\nuse z step i j b d\n"
    >>> answers(sheet + "\ntable step\nsize four\nheld\nsums\nlongest step\nset step q 2 1\nheld\nrow step 2\nback\nback\nat 8")
    ['0 3 -2 3; 0 0 -2 0; 3 6 0 6; 1 1 -1 0', '10 12', 'four', '8 6 6', '3', 'done', '-', '0 3 -4 1; 0 0 -4 0; 6 8 0 6; 4 4 0 0', 'done', 'refused NothingDone', 'refused NoStep']
    >>> answers(sheet + "\nqueue four x.p\nlag four e\ntable four\nsame step four\nswap step four\nset step p 2 3")
    ['g e 3 3', '-', 'held', 'no', 'done', 'refused BadQueue']
    >>> answers(sheet + "\nat -1")
    raises BadLine(number=10)
'''


class DocumentTest(unittest.TestCase):

    def test_nets(self):
        self.assertEqual(check_examples(self, NETS, NAMES), 8)

    def test_runs(self):
        self.assertEqual(check_examples(self, RUNS, NAMES), 9)

    def test_reach(self):
        self.assertEqual(check_examples(self, REACH, NAMES), 6)

    def test_judge(self):
        self.assertEqual(check_examples(self, JUDGE, NAMES), 7)

    def test_early(self):
        self.assertEqual(check_examples(self, EARLY, NAMES), 8)

    def test_tune(self):
        self.assertEqual(check_examples(self, TUNE, NAMES), 7)

    def test_stops(self):
        self.assertEqual(check_examples(self, STOPS, NAMES), 5)

    def test_tables(self):
        self.assertEqual(check_examples(self, TABLES, NAMES), 8)

    def test_chains(self):
        self.assertEqual(check_examples(self, CHAINS, NAMES), 10)

    def test_nests(self):
        self.assertEqual(check_examples(self, NESTS, NAMES), 11)

    def test_yard(self):
        self.assertEqual(check_examples(self, YARD, NAMES), 6)

    def test_texts(self):
        self.assertEqual(check_examples(self, TEXTS, NAMES), 10)

    def test_desk(self):
        self.assertEqual(check_examples(self, DESK, NAMES), 3)


if __name__ == "__main__":
    unittest.main()

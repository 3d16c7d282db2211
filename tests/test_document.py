"""The examples of the document, word for word."""

import unittest

from joinlags import errors, nets, runs
from examples import check_examples

NAMES = {**vars(errors), **vars(nets), **vars(runs)}

NETS = r'''
    >>> fork = (("a", "d", "s"), (("p", "s", "a", 3, 3), ("q", "a", "d", 3, 3), ("r", "s", "d", 4, 1)))
    >>> is_net(fork), is_net((("a", "b"), (("p", "a", "b", 1, 2),))), is_counts(fork, (0, 0, 4)), is_drops(fork, (("p", 3), ("p", 1)))
    (True, False, True, False)
    >>> incoming(fork, "d"), outgoing(fork, "d"), groups((("a", "b", "c"), (("p", "c", "a", 1, 1),)))
    (('q', 'r'), (), [('a', 'c'), ('b',)])
    >>> idle((("i", "j", "s", "t"), (("a", "i", "j", 1, 1), ("b", "j", "i", 1, 1), ("c", "j", "t", 1, 1), ("d", "s", "t", 1, 1))))
    ('i', 'j', 't')
    >>> way = Way(fork, "s", ("r", "q", "p"))
    >>> way.steps(), way.workers(), way.cost(), way.is_ring(), way.is_bad(), len(way), "q" in way
    ((('r', 'along'), ('q', 'against'), ('p', 'against')), ('s', 'd', 'a', 's'), 0, True, True, 3, True)
    >>> back = -way
    >>> back.steps(), back.cost(), (way + back).cost(), (way * 2).is_ring(), (Way(fork, "s", ("r",)) + Way(fork, "d", ("q", "p"))) == way
    ((('p', 'along'), ('q', 'along'), ('r', 'against')), 6, 6, False, True)
    >>> Way(fork, "s", ("r", "p"))
    raises NoStep(place=1)
    >>> rings(fork)
    [(('p', 'against'), ('r', 'along'), ('q', 'against')), (('q', 'along'), ('r', 'against'), ('p', 'along'))]
    >>> slack(fork), slack((("a", "b"), (("p", "a", "b", 2, 1),)))
    (0, None)
'''

RUNS = r'''
    >>> net = (("a", "d", "s"), (("p", "s", "a", 2, 2), ("q", "a", "d", 1, 1), ("r", "s", "d", 3, 2)))
    >>> run = Run(net, (("p", 1), ("q", 1), ("r", 1)))
    >>> run += "s"
    >>> run.counts(), run.messages("p"), "a" in run, len(run)
    ((0, 0, 1), [], False, 0)
    >>> run += "a"
    raises Silent(queue='p')
    >>> run += "s"
    >>> run += "a"
    >>> run.messages("q"), run.messages("p"), run.counts(), run.ready()
    ([(1, 'notice')], [(2, 'item')], (1, 0, 2), ('d', 's'))
    >>> run += "a"
    raises Full(queue='q')
    >>> run.settle(3), run.back(), run.counts(), held(net, (("p", 1), ("q", 1), ("r", 1)))
    ((3, 3, 3), None, (1, 0, 2), (None, None, None))
    >>> held(net, (), deaths=(("d", 2),))
    (3, 2, 5)
    >>> stopped = Run(net, (), deaths=(("s", 0),))
    >>> stopped += "s"
    raises Dead(worker='s')
    >>> fork = (("a", "d", "s"), (("p", "s", "a", 3, 3), ("q", "a", "d", 3, 3), ("r", "s", "d", 4, 1)))
    >>> drops = (("p", 3), ("p", 4), ("q", 1), ("q", 2))
    >>> held(fork, drops), closes(fork, drops, (2, 0, 4)), closes(fork, drops, (3, 0, 4)), closes(fork, drops, (2, None, 4))
    ((2, 0, 4), True, False, False)
    >>> stands(fork, drops, (0, 0, 4)), stands(fork, drops, (3, 3, 5)), order_to(fork, drops, (1, 0, 1))
    (True, False, ('s', 'a'))
'''


class DocumentTest(unittest.TestCase):

    def test_nets(self):
        self.assertEqual(check_examples(self, NETS, NAMES), 8)

    def test_runs(self):
        self.assertEqual(check_examples(self, RUNS, NAMES), 9)


if __name__ == "__main__":
    unittest.main()

"""The picture of all drops that other tests use, held against runs drops by drops."""

import random
import unittest

from choices import left, left_by_drops, standing, standing_by_drops
from samples import random_net


class ChoicesTest(unittest.TestCase):

    def test_all_drops_at_once_and_one_by_one(self):
        source = random.Random(31)
        for limit, queues, many in ((2, 3, 25), (3, 2, 25), (5, 1, 10)):
            for _ in range(many):
                net = random_net(source, 3, queues, 2)
                self.assertEqual(standing(net, limit), standing_by_drops(net, limit), net)
                self.assertEqual(left(net, limit), left_by_drops(net, limit), net)


if __name__ == "__main__":
    unittest.main()

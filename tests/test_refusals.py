"""The refusals that all functions of haltline.times share, and in which order they are due."""

import unittest
from copy import deepcopy

from haltline.errors import BadOrders, BadTrains, Sticks, TooSoon
from haltline.line import Line
from haltline.times import chain, latest, least_table
from tests.helper import STUCK

CALLS = (
    ("least_table", least_table),
    ("chain", chain),
    ("latest far behind", lambda line, trains, orders: latest(line, trains, orders, 1000)),
    ("latest far ahead", lambda line, trains, orders: latest(line, trains, orders, -1)),
)

LINE = Line([4, 12, 3], 1)
GOOD = (0, 3, 5)
BAD_TRAINS = (
    (1, 1, 0), (-1, 2, 0), (2, -1, 0), (4, 2, 0), (2, 4, 0), (0, 3, -1), (0, 3, 61),
)


class Refusals(unittest.TestCase):
    def refused(self, error, line, trains, orders):
        for name, call in CALLS:
            with self.subTest(name, trains=trains, orders=orders):
                handed = deepcopy((trains, orders))
                with self.assertRaises(error):
                    call(line, trains, orders)
                self.assertEqual((trains, orders), handed)
                self.assertEqual((line.runs(), line.clear()), ([4, 12, 3], 1))

    def test_one_and_five_trains_are_taken(self):
        for count in (1, 2, 3, 4, 5):
            orders = [list(range(count)) for _ in range(3)]
            trains = [GOOD] * count
            self.assertEqual(least_table(LINE, trains, orders)[0], "table")
            self.assertTrue(chain(LINE, trains, orders))
            self.assertEqual(len(latest(LINE, trains, orders, 1000)), count)

    def test_no_train(self):
        self.refused(BadTrains, LINE, [], [[], [], []])

    def test_six_trains(self):
        for count in (6, 7):
            self.refused(BadTrains, LINE, [GOOD] * count, [list(range(count))] * 3)

    def test_one_bad_train_among_good_ones(self):
        for bad in BAD_TRAINS:
            self.refused(BadTrains, LINE, [bad], [[0], [0], [0]])
            for place in range(3):
                trains = [GOOD, GOOD]
                trains.insert(place, bad)
                self.refused(BadTrains, LINE, trains, [[0, 1, 2]] * 3)

    def test_bad_orders(self):
        # Train 0 goes by all stretches, train 1 by the last two, train 2 by the first one.
        trains = [(0, 3, 0), (3, 1, 10), (1, 0, 20)]
        right = [[0, 2], [0, 1], [0, 1]]
        for wrong in (
            [[0], [0, 1], [0, 1]],                # a train left out
            [[0, 2], [1], [0, 1]],
            [[0, 2], [0, 1], []],
            [[0, 2, 2], [0, 1], [0, 1]],          # a train twice
            [[0, 2], [0, 1, 0], [0, 1]],
            [[0, 2], [0, 1], [1, 1]],             # one twice in the place of another
            [[0, 2, 1], [0, 1], [0, 1]],          # on a stretch that is not on its way
            [[0, 2], [0, 1], [0, 1, 2]],
            [[0, 1], [0, 1], [0, 1]],
            [[0, 2, 3], [0, 1], [0, 1]],          # a train that is not there
            [[0, 3], [0, 1], [0, 1]],
            [[0, 2], [0, -2], [0, 1]],
            [[0, -1], [0, 1], [0, 1]],
            [[0, 2], [0, 1], [0, 1, -1]],
            [[0, 2], [0, 1]],                     # a stretch left out
            [[0, 2]],
            [],
            [[0, 2], [0, 1], [0, 1], []],         # one too many
            [[0, 2], [0, 1], [0, 1], [0]],
            [[], [0, 2], [0, 1], [0, 1]],
            [[0, 1], [0, 1], [0, 2]],             # the lists in another order
        ):
            self.refused(BadOrders, LINE, trains, wrong)
        self.assertEqual(least_table(LINE, trains, right)[0], "table")

    def test_a_stretch_without_trains_has_an_empty_list(self):
        trains = [(0, 1, 0)]
        self.assertEqual(least_table(LINE, trains, [[0], [], []]), ("table", [[0]]))
        self.refused(BadOrders, LINE, trains, [[0]])
        self.refused(BadOrders, LINE, trains, [[0], [0], []])

    def test_bad_trains_come_ahead_of_bad_orders(self):
        for orders in ([], [[0]], [[9], [0, 0], [-1]], [[0, 1]] * 4):
            self.refused(BadTrains, LINE, [], orders)
            self.refused(BadTrains, LINE, [GOOD] * 6, orders)
            for bad in BAD_TRAINS:
                self.refused(BadTrains, LINE, [bad], orders)
                self.refused(BadTrains, LINE, [GOOD, bad], orders)

    def test_bad_orders_come_ahead_of_sticking(self):
        # Stretch 0 and 1 stick; stretch 2 is wrong.
        trains = [(0, 3, 0), (3, 0, 0)]
        self.refused(BadOrders, LINE, trains, [[1, 0], [0, 1], [0]])
        self.refused(BadOrders, LINE, trains, [[1, 0], [0, 1], [0, 1, 2]])

    def test_sticking_comes_ahead_of_the_limit(self):
        line, trains, orders = STUCK
        for limit in (-1000, -1, 0, 1, 10, 22, 1000, 10**9):
            with self.subTest(limit), self.assertRaises(Sticks):
                latest(line, trains, orders, limit)
        with self.assertRaises(TooSoon):
            latest(line, trains, [[0, 1], [0, 1]], -1)


if __name__ == "__main__":
    unittest.main()

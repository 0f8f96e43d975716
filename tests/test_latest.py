import unittest
from itertools import product

from haltline.errors import Sticks, TooSoon
from haltline.line import Line
from haltline.times import latest
from tests.helper import (
    STUCK, all_orders, all_tables, as_table, by_visit, drawn_cases, keeps_both, last_left, pushed_apart,
    small_cases, turned_round,
)


class LatestTables(unittest.TestCase):
    def test_one_train(self):
        line = Line([4, 12, 3], 5)
        trains, orders = [(0, 3, 7)], [[0], [0], [0]]
        self.assertEqual(latest(line, trains, orders, 26), [[7, 11, 23]])
        self.assertEqual(latest(line, trains, orders, 27), [[8, 12, 24]])
        self.assertEqual(latest(line, trains, orders, 1026), [[1007, 1011, 1023]])
        with self.assertRaises(TooSoon):
            latest(line, trains, orders, 25)

    def test_a_train_waits_as_long_as_it_may(self):
        # At the last arrival itself the train that holds up nobody still has room.
        line = Line([4, 6], 1)
        self.assertEqual(latest(line, [(0, 2, 0), (0, 1, 0)], [[0, 1], [0]], 10), [[0, 4], [6]])
        self.assertEqual(latest(line, [(0, 2, 0), (2, 0, 3)], [[0, 1], [0, 1]], 21), [[0, 4], [11, 17]])
        self.assertEqual(latest(line, [(0, 2, 0), (2, 0, 3)], [[0, 1], [1, 0]], 16), [[6, 10], [3, 12]])

    def test_arguments_by_name(self):
        self.assertEqual(latest(line=Line([4], 0), trains=[(0, 1, 0)], orders=[[0]], limit=9), [[5]])

    def test_limits_ahead_of_the_last_arrival(self):
        line = Line([4, 6], 1)
        trains, orders = [(0, 2, 0), (2, 0, 3)], [[0, 1], [0, 1]]
        for limit in (20, 19, 1, 0, -1, -1000):
            with self.subTest(limit), self.assertRaises(TooSoon):
                latest(line, trains, orders, limit)

    def test_orders_that_stick(self):
        for limit in (-1, 0, 21, 10**6):
            with self.subTest(limit), self.assertRaises(Sticks):
                latest(*STUCK, limit)

    def keeps_all(self, line, trains, orders, limit, enters):
        return keeps_both(line, trains, orders, enters) and last_left(line, enters) <= limit

    def check_latest(self, line, trains, orders, limit):
        table = latest(line, trains, orders, limit)
        enters = by_visit(trains, table)
        self.assertTrue(self.keeps_all(line, trains, orders, limit, enters), table)
        for visit in enters:
            later = dict(enters)
            later[visit] += 1
            self.assertFalse(self.keeps_all(line, trains, orders, limit, later), (table, visit))
        self.assertEqual(table, as_table(trains, turned_round(line, trains, orders, limit)))

    def check_all(self, cases):
        seen = {True: 0, False: 0}
        for line, trains, orders in cases:
            least = pushed_apart(line, trains, orders)
            seen[least is None] += 1
            with self.subTest(runs=line.runs(), clear=line.clear(), trains=trains, orders=orders):
                if least is None:
                    for limit in (-1, 60, 10**6):
                        with self.assertRaises(Sticks):
                            latest(line, trains, orders, limit)
                else:
                    arrival = last_left(line, least)
                    for limit in (arrival, arrival + 1, arrival + 997):
                        self.check_latest(line, trains, orders, limit)
                    with self.assertRaises(TooSoon):
                        latest(line, trains, orders, arrival - 1)
        self.assertGreater(seen[True], 50)
        self.assertGreater(seen[False], 100)

    def test_small_cases(self):
        self.check_all(small_cases())

    def test_drawn_cases(self):
        self.check_all(drawn_cases(4, 300))

    def test_against_all_tables_there_are(self):
        line = Line([1, 2], 1)
        for trains in product(((0, 2, 0), (2, 0, 1), (0, 1, 2), (1, 2, 1)), repeat=2):
            for orders in all_orders(line, trains):
                with self.subTest(trains=trains, orders=orders):
                    self.check_all_tables(line, list(trains), orders)

    def check_all_tables(self, line, trains, orders):
        for limit in (5, 8, 10):
            tables = list(all_tables(line, trains, orders, limit))
            if tables:
                most = {visit: max(enters[visit] for enters in tables) for visit in tables[0]}
                self.assertEqual(latest(line, trains, orders, limit), as_table(trains, most))
            else:
                with self.assertRaises((Sticks, TooSoon)):
                    latest(line, trains, orders, limit)


if __name__ == "__main__":
    unittest.main()

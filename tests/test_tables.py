import unittest
from copy import deepcopy
from itertools import product

from haltline.errors import BadTable, BadTrains
from haltline.line import Line
from haltline.tables import keeps, last_arrival, orders_of
from haltline.times import least_table
from tests.helper import (
    BAD_TRAINS, all_orders, all_tables, as_table, by_visit, counted_orders, drawn_tables, keeps_line, last_left,
    small_trains,
)

BOTH = (("orders_of", orders_of), ("last_arrival", last_arrival))


class TablesThatKeepTheLine(unittest.TestCase):
    def check(self, line, trains, table):
        enters = by_visit(trains, table)
        self.assertEqual(orders_of(line, trains, table), counted_orders(line, trains, enters))
        arrival = last_arrival(line, trains, table)
        self.assertEqual(arrival, last_left(line, enters))
        self.assertIs(type(arrival), int)

    def test_one_train(self):
        line = Line([4, 12, 3], 5)
        self.assertEqual(orders_of(line, [(0, 3, 0)], [[0, 4, 16]]), [[0], [0], [0]])
        self.assertEqual(last_arrival(line, [(0, 3, 0)], [[0, 4, 16]]), 19)
        self.assertEqual(last_arrival(line, [(0, 3, 0)], [[0, 4, 100]]), 103)
        self.assertEqual(last_arrival(line, [(3, 0, 0)], [[0, 3, 15]]), 19)

    def test_stretches_that_no_train_goes_by(self):
        line = Line([4, 12, 3, 1, 7], 5)
        self.assertEqual(orders_of(line, [(2, 1, 0)], [[9]]), [[], [0], [], [], []])
        self.assertEqual(last_arrival(line, [(2, 1, 0)], [[9]]), 21)
        self.assertEqual(orders_of(line, [(4, 5, 0), (1, 0, 0)], [[9], [3]]), [[1], [], [], [], [0]])
        self.assertEqual(last_arrival(line, [(4, 5, 0), (1, 0, 0)], [[9], [3]]), 16)

    def test_several_trains(self):
        line = Line([4, 6], 2)
        trains = [(0, 2, 0), (0, 2, 1)]
        self.assertEqual(orders_of(line, trains, [[0, 18], [6, 10]]), [[0, 1], [1, 0]])
        self.assertEqual(last_arrival(line, trains, [[0, 18], [6, 10]]), 24)
        trains = [(0, 1, 0), (1, 0, 0), (0, 1, 0)]
        self.assertEqual(orders_of(line, trains, [[12], [0], [6]]), [[1, 2, 0], []])
        self.assertEqual(last_arrival(line, trains, [[12], [0], [6]]), 16)

    def test_the_last_enter_need_not_be_the_last_arrival(self):
        line = Line([20, 1], 0)
        self.assertEqual(last_arrival(line, [(0, 1, 0), (1, 2, 0)], [[0], [10]]), 20)
        self.assertEqual(last_arrival(line, [(1, 2, 0), (0, 1, 0)], [[10], [0]]), 20)

    def test_arguments_by_name(self):
        self.assertEqual(orders_of(line=Line([4], 0), trains=[(0, 1, 2)], table=[[2]]), [[0]])
        self.assertEqual(last_arrival(line=Line([4], 0), trains=[(0, 1, 2)], table=[[2]]), 6)

    def test_all_small_tables(self):
        for gap in (0, 1):
            line = Line([1, 2], gap)
            for trains in small_trains(2, (0, 1), 2):
                seen = 0
                for orders in all_orders(line, trains):
                    for enters in all_tables(line, trains, orders, 6 + gap):
                        seen += 1
                        table = as_table(trains, enters)
                        self.assertEqual(orders_of(line, trains, table), orders, (gap, trains, table))
                        self.assertEqual(last_arrival(line, trains, table), last_left(line, enters))
                self.assertTrue(seen)

    def test_drawn_tables(self):
        for line, trains, table in drawn_tables(12, 200):
            with self.subTest(runs=line.runs(), clear=line.clear(), trains=trains, table=table):
                self.check(line, trains, table)

    def test_least_table_of_its_orders(self):
        earlier = 0
        for line, trains, table in drawn_tables(13, 200):
            with self.subTest(runs=line.runs(), clear=line.clear(), trains=trains, table=table):
                orders = orders_of(line, trains, table)
                kind, least = least_table(line, trains, orders)
                self.assertEqual(kind, "table")
                self.assertIs(keeps(line, trains, least), True)
                self.assertEqual(orders_of(line, trains, least), orders)
                self.assertLessEqual(last_arrival(line, trains, least), last_arrival(line, trains, table))
                for row, least_row in zip(table, least):
                    for minute, least_minute in zip(row, least_row):
                        self.assertLessEqual(least_minute, minute)
                earlier += least != table
        self.assertGreater(earlier, 100)


class TablesThatDoNot(unittest.TestCase):
    def refused(self, error, line, trains, table):
        for name, call in BOTH:
            with self.subTest(name, trains=trains, table=table):
                handed = deepcopy((trains, table))
                with self.assertRaises(error):
                    call(line, trains, table)
                self.assertEqual((trains, table), handed)

    def test_a_minute_too_soon(self):
        line = Line([4, 6], 1)
        trains = [(0, 2, 0), (2, 0, 3)]
        for name, call in BOTH:
            call(line, trains, [[0, 4], [11, 17]])
        for table in ([[-1, 4], [11, 17]], [[0, 3], [11, 17]], [[0, 4], [10, 17]], [[0, 4], [11, 16]]):
            self.refused(BadTable, line, trains, table)
        self.refused(BadTable, line, [(0, 1, 0), (0, 1, 0)], [[3], [3]])
        self.refused(BadTable, line, [(0, 1, 0), (0, 1, 0)], [[3], [7]])
        self.refused(BadTable, line, [(0, 1, 0), (0, 1, 5)], [[10], [4]])

    def test_of_other_lengths(self):
        line = Line([4, 6], 1)
        trains = [(0, 2, 0), (2, 0, 3)]
        for table in (
            [], [[]], [[], []], [[0, 4]], [[0, 4], [11, 17], []], [[0, 4], []], [[], [11, 17]], [[0], [11, 17]],
            [[0, 4], [11]], [[0, 4, 10], [11, 17]], [[0, 4], [11, 17, 21]], [[0, 4], [11, 17], [30, 40]],
        ):
            self.refused(BadTable, line, trains, table)

    def test_wrong_trains_come_first(self):
        line = Line([4, 6], 1)
        for trains in BAD_TRAINS:
            for table in ([], [[]], [[0]], [[0, 4]], [[0, 4], [11, 17]], [[99, 199]] * len(trains), [[]] * 6):
                self.refused(BadTrains, line, trains, table)

    def test_refused_just_where_keeps_says_no(self):
        line = Line([1, 2], 1)
        trains = [(0, 2, 1), (2, 1, 0)]
        seen = {True: 0, False: 0}
        for minutes in product(range(7), repeat=3):
            table = [list(minutes[:2]), [minutes[2]]]
            kept = keeps_line(line, trains, by_visit(trains, table))
            seen[kept] += 1
            if kept:
                self.assertEqual(len(orders_of(line, trains, table)), 2)
                self.assertGreater(last_arrival(line, trains, table), 0)
            else:
                self.refused(BadTable, line, trains, table)
        self.assertTrue(seen[True] and seen[False])


if __name__ == "__main__":
    unittest.main()

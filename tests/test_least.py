import unittest
from itertools import product

from haltline.line import Line
from haltline.times import least_table
from tests.helper import (
    all_orders, all_tables, as_table, by_visit, drawn_cases, keeps_both, last_left, pushed_apart, small_cases,
)


class LeastTables(unittest.TestCase):
    def least(self, line, trains, orders):
        told = least_table(line, trains, orders)
        self.assertIs(type(told), tuple)
        self.assertEqual(len(told), 2)
        self.assertEqual(told[0], "table")
        return told[1]

    def test_one_train(self):
        line = Line([4, 12, 3], 5)
        self.assertEqual(self.least(line, [(0, 3, 0)], [[0], [0], [0]]), [[0, 4, 16]])
        self.assertEqual(self.least(line, [(0, 3, 60)], [[0], [0], [0]]), [[60, 64, 76]])
        self.assertEqual(self.least(line, [(3, 0, 7)], [[0], [0], [0]]), [[7, 10, 22]])
        self.assertEqual(self.least(line, [(2, 1, 7)], [[], [0], []]), [[7]])

    def test_one_behind_the_other(self):
        trains = [(0, 2, 0), (0, 2, 1)]
        self.assertEqual(self.least(Line([4, 6], 0), trains, [[0, 1], [0, 1]]), [[0, 4], [4, 10]])
        self.assertEqual(self.least(Line([4, 6], 2), trains, [[0, 1], [0, 1]]), [[0, 4], [6, 12]])
        self.assertEqual(self.least(Line([4, 6], 5), trains, [[0, 1], [0, 1]]), [[0, 4], [9, 15]])
        self.assertEqual(self.least(Line([4, 6], 2), trains, [[1, 0], [1, 0]]), [[7, 13], [1, 5]])

    def test_one_passes_the_other_at_a_halt(self):
        trains = [(0, 2, 0), (0, 2, 1)]
        self.assertEqual(self.least(Line([4, 6], 2), trains, [[0, 1], [1, 0]]), [[0, 18], [6, 10]])

    def test_against_each_other(self):
        trains = [(0, 2, 0), (2, 0, 3)]
        self.assertEqual(self.least(Line([4, 6], 0), trains, [[0, 1], [0, 1]]), [[0, 4], [10, 16]])
        self.assertEqual(self.least(Line([4, 6], 1), trains, [[0, 1], [0, 1]]), [[0, 4], [11, 17]])
        self.assertEqual(self.least(Line([4, 6], 1), trains, [[0, 1], [1, 0]]), [[0, 10], [3, 9]])
        self.assertEqual(self.least(Line([4, 6], 1), trains, [[1, 0], [1, 0]]), [[14, 18], [3, 9]])

    def test_the_gap_parts_trains_alone(self):
        # A train goes on at once by the next stretch, whatever the gap.
        self.assertEqual(self.least(Line([4, 6], 5), [(0, 2, 0)], [[0], [0]]), [[0, 4]])

    def test_a_late_train_that_is_let_on_first(self):
        line = Line([4], 3)
        self.assertEqual(self.least(line, [(0, 1, 0), (1, 0, 60)], [[1, 0]]), [[67], [60]])
        self.assertEqual(self.least(line, [(0, 1, 0), (1, 0, 60)], [[0, 1]]), [[0], [60]])

    def test_at_the_bounds(self):
        line = Line([20] * 5, 5)
        trains = [(0, 5, 60)] * 5
        table = self.least(line, trains, [[4, 3, 2, 1, 0]] * 5)
        self.assertEqual(table[4], [60, 80, 100, 120, 140])
        self.assertEqual(table[0], [160, 180, 200, 220, 240])
        self.assertEqual(last_left(line, by_visit(trains, table)), 260)

    def check_least(self, line, trains, orders, table):
        enters = by_visit(trains, table)
        self.assertTrue(keeps_both(line, trains, orders, enters), table)
        for visit in enters:
            sooner = dict(enters)
            sooner[visit] -= 1
            self.assertFalse(keeps_both(line, trains, orders, sooner), (table, visit))

    def check_against_second_way(self, cases):
        seen = {"table": 0, "ring": 0}
        for line, trains, orders in cases:
            with self.subTest(runs=line.runs(), clear=line.clear(), trains=trains, orders=orders):
                expected = pushed_apart(line, trains, orders)
                told = least_table(line, trains, orders)
                seen[told[0]] += 1
                if expected is None:
                    self.assertEqual(told[0], "ring")
                else:
                    self.assertEqual(told, ("table", as_table(trains, expected)))
                    self.check_least(line, trains, orders, told[1])
        self.assertGreater(seen["table"], 100)
        self.assertGreater(seen["ring"], 50)

    def test_small_cases(self):
        self.check_against_second_way(small_cases())

    def test_drawn_cases(self):
        self.check_against_second_way(drawn_cases(1, 400))

    def test_against_all_tables_there_are(self):
        for gap in (0, 1):
            line = Line([1, 2], gap)
            for trains in product(((0, 2, 0), (2, 0, 1), (0, 1, 2), (1, 2, 1)), repeat=2):
                for orders in all_orders(line, trains):
                    with self.subTest(gap=gap, trains=trains, orders=orders):
                        self.check_all_tables(line, list(trains), orders)

    def check_all_tables(self, line, trains, orders):
        # By 10 even the worst of these orders are through, so no table by then means a ring.
        tables = list(all_tables(line, trains, orders, 10))
        told = least_table(line, trains, orders)
        if not tables:
            self.assertEqual(told[0], "ring")
            return
        least = {visit: min(enters[visit] for enters in tables) for visit in tables[0]}
        self.assertEqual(told, ("table", as_table(trains, least)))
        self.assertIn(least, tables)


if __name__ == "__main__":
    unittest.main()

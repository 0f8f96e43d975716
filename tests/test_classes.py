"""Each refusal of the whole program: of its own class, and of none of the other seven."""

import unittest

from haltline import errors
from haltline.line import Line, way
from haltline.notes import read
from haltline.plans import best, first_come
from haltline.tables import keeps, last_arrival, orders_of
from haltline.times import chain, latest, least_table

NAMES = ("BadLine", "BadTrains", "BadOrders", "BadTable", "Sticks", "TooSoon", "TooMany", "BadText")
LINE = Line([4, 6], 1)
TRAINS = [(0, 2, 0), (2, 0, 3)]
ORDERS = [[0, 1], [0, 1]]
STICKING = [[1, 0], [0, 1]]
TABLE = [[0, 4], [11, 17]]
WRONG_TRAINS = ([], [(0, 2, 0)] * 6, [(1, 1, 0)], [(0, 3, 0)], [(0, 2, 61)], [(0, 2, 0)] * 3 + [(-1, 2, 0)])
WRONG_ORDERS = ([], [[0, 1]], [[0, 1], [0]], [[0, 1], [0, 0]], [[0, 1], [0, 1, 2]], [[0, 1]] * 3)
WRONG_TABLES = ([], [[0, 4]], [[0, 4], [11]], [[0, 4], [10, 17]], [[0, 3], [11, 17]], [[-1, 4], [11, 17]])


class Classes(unittest.TestCase):
    def refused(self, name, call, *handed):
        with self.subTest(name, call=call, handed=handed):
            try:
                call(*handed)
            except Exception as error:
                self.assertIsInstance(error, errors.HaltError)
                self.assertIsInstance(error, ValueError)
                self.assertEqual([each for each in NAMES if isinstance(error, getattr(errors, each))], [name])
            else:
                self.fail("not refused")

    def test_lines(self):
        for runs, clear in (([], 0), ([4] * 6, 0), ([0], 0), ([21], 0), ([4, -1], 0), ([4], -1), ([4], 6), ([], 6)):
            self.refused("BadLine", Line, runs, clear)

    def test_wrong_trains(self):
        for train in ((1, 1, 0), (0, 3, 0), (3, 0, 0), (-1, 0, 0), (0, -1, 0), (0, 2, -1), (0, 2, 61)):
            self.refused("BadTrains", way, LINE, train)
        for trains in WRONG_TRAINS:
            for orders in (ORDERS, STICKING) + WRONG_ORDERS:
                self.refused("BadTrains", least_table, LINE, trains, orders)
                self.refused("BadTrains", chain, LINE, trains, orders)
                self.refused("BadTrains", latest, LINE, trains, orders, 0)
                self.refused("BadTrains", latest, LINE, trains, orders, 99)
            for table in (TABLE,) + WRONG_TABLES:
                self.refused("BadTrains", keeps, LINE, trains, table)
                self.refused("BadTrains", orders_of, LINE, trains, table)
                self.refused("BadTrains", last_arrival, LINE, trains, table)
            self.refused("BadTrains", first_come, LINE, trains)
            self.refused("BadTrains", best, LINE, trains)

    def test_wrong_orders(self):
        for orders in WRONG_ORDERS:
            self.refused("BadOrders", least_table, LINE, TRAINS, orders)
            self.refused("BadOrders", chain, LINE, TRAINS, orders)
            self.refused("BadOrders", latest, LINE, TRAINS, orders, 0)
            self.refused("BadOrders", latest, LINE, TRAINS, orders, 99)

    def test_sticking(self):
        self.refused("Sticks", chain, LINE, TRAINS, STICKING)
        self.refused("Sticks", latest, LINE, TRAINS, STICKING, 0)
        self.refused("Sticks", latest, LINE, TRAINS, STICKING, 99)

    def test_too_soon(self):
        for limit in (-1, 0, 20):
            self.refused("TooSoon", latest, LINE, TRAINS, ORDERS, limit)

    def test_wrong_tables(self):
        for table in WRONG_TABLES:
            self.refused("BadTable", orders_of, LINE, TRAINS, table)
            self.refused("BadTable", last_arrival, LINE, TRAINS, table)

    def test_too_many(self):
        for count in (4, 5):
            self.refused("TooMany", best, LINE, [(0, 2, 0)] * count)

    def test_texts(self):
        for text in (
            "", "4", "4 clear", "4-6 clear 1 ", "04 clear 1", "4-6-clear 1", "0 clear 1", "21 clear 1", "4 clear 6",
            "9" * 50 + " clear 1", "4 clear " + "9" * 50, "4-4-4-4-4-4 clear 1", "4--6 clear 1", "-4 clear 1",
            "4 clear -1", "+4 clear 1", "1_0 clear 1", "4 Clear 1", "4\tclear 1", "4 clear 1\n",
        ):
            self.refused("BadText", read, text)


if __name__ == "__main__":
    unittest.main()

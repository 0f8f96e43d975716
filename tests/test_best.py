import unittest
from copy import deepcopy
from itertools import product

from haltline.errors import BadTrains, TooMany
from haltline.line import Line
from haltline.plans import best, first_come
from haltline.tables import last_arrival
from haltline.times import least_table
from tests.helper import (
    BAD_TRAINS, Draw, as_table, best_of_all_orders, by_visit, crowded_case, drawn_case, keeps_line, last_left,
    pushed_apart, small_trains, visits_of,
)


class Best(unittest.TestCase):
    def check(self, line, trains, expected):
        """Which orders are told, of several, is not promised: only what they have to be."""
        with self.subTest(runs=line.runs(), clear=line.clear(), trains=trains):
            told = best(line, trains)
            self.assertIs(type(told), tuple)
            self.assertEqual(len(told), 2)
            arrival, orders = told
            self.assertIs(type(arrival), int)
            self.assertEqual(arrival, expected)
            self.check_orders(line, trains, orders)
            enters = pushed_apart(line, trains, orders)
            self.assertIsNotNone(enters)
            self.assertEqual(last_left(line, enters), arrival)
            self.assertEqual(least_table(line, trains, orders), ("table", as_table(trains, enters)))
            self.assertLessEqual(arrival, last_arrival(line, trains, first_come(line, trains)))

    def check_orders(self, line, trains, orders):
        self.assertIs(type(orders), list)
        self.assertEqual(len(orders), len(line.runs()))
        for stretch, order in enumerate(orders):
            self.assertIs(type(order), list)
            going = [visit[0] for visit in visits_of(trains) if visit[1] == stretch]
            self.assertEqual(sorted(order), sorted(going))

    def test_one_train(self):
        line = Line([4, 12, 3], 5)
        self.check(line, [(0, 3, 0)], 19)
        self.check(line, [(3, 0, 60)], 79)
        self.check(line, [(1, 2, 7)], 19)
        self.assertEqual(best(line, [(1, 2, 7)]), (19, [[], [0], []]))

    def test_two_trains(self):
        self.check(Line([4], 1), [(0, 1, 0), (1, 0, 0)], 9)
        self.check(Line([4, 6], 1), [(0, 2, 0), (0, 2, 0)], 17)
        self.check(Line([4, 6], 1), [(0, 2, 0), (2, 0, 3)], 16)
        self.check(Line([4, 6], 1), [(0, 1, 0), (2, 1, 60)], 66)

    def test_better_than_first_come(self):
        # Train 0 does best to wait for the late train 1, which has farther to go.
        line = Line([20, 20], 0)
        trains = [(1, 0, 0), (0, 2, 1)]
        self.assertEqual(last_arrival(line, trains, first_come(line, trains)), 60)
        self.check(line, trains, 41)

    def test_three_trains(self):
        self.check(Line([4], 1), [(0, 1, 0), (1, 0, 0), (0, 1, 0)], 14)
        # The third train enters stretch 1 at 3, the others go by it 13 and 26 minutes later, then by stretch 2.
        self.check(Line([4, 12, 3], 1), [(0, 3, 0), (0, 3, 0), (3, 0, 0)], 44)

    def test_arguments_by_name(self):
        self.assertEqual(best(line=Line([4], 0), trains=[(0, 1, 2)]), (6, [[0]]))

    def test_against_all_orders_of_small_lines(self):
        for runs, gap in (([1], 0), ([2], 1), ([1, 2], 0), ([3, 1], 2)):
            for count in (1, 2):
                for trains in small_trains(len(runs), (0, 1, 3), count):
                    line = Line(runs, gap)
                    self.check(line, trains, best_of_all_orders(line, trains))

    def test_against_all_orders_of_three_trains(self):
        line = Line([3, 1], 1)
        for trains in product(((0, 2, 0), (2, 0, 1), (0, 1, 2), (1, 2, 0), (1, 0, 2)), repeat=3):
            self.check(line, list(trains), best_of_all_orders(line, trains))

    def test_against_all_orders_of_drawn_cases(self):
        draw = Draw(31)
        better = 0
        for _ in range(100):
            for line, trains in (drawn_case(draw, 3, 3), crowded_case(draw, 3, 3)):
                expected = best_of_all_orders(line, trains)
                self.check(line, trains, expected)
                better += expected < last_arrival(line, trains, first_come(line, trains))
        self.assertGreater(better, 10)

    def test_against_all_orders_of_long_lines(self):
        draw = Draw(32)
        for _ in range(4):
            line = Line([1 + draw.upto(19) for _ in range(4)], draw.upto(5))
            ways = ((0, 4), (4, 0), (1, 4), (4, 0), (0, 4), (3, 0))
            trains = [ways[draw.upto(5)] + (draw.upto(20),) for _ in range(3)]
            self.check(line, trains, best_of_all_orders(line, trains))
        line = Line([14, 20, 3, 1, 4], 1)
        trains = [(5, 0, 17), (0, 5, 9), (5, 2, 19)]
        self.check(line, trains, best_of_all_orders(line, trains))

    def test_against_all_tables_there_are(self):
        for gap in (0, 1):
            line = Line([1, 2], gap)
            for trains in product(((0, 2, 0), (2, 0, 1), (0, 1, 2), (1, 2, 1), (2, 1, 0)), repeat=2):
                visits = visits_of(trains)
                arrivals = []
                for minutes in product(range(7), repeat=len(visits)):
                    enters = dict(zip(visits, minutes))
                    if keeps_line(line, trains, enters):
                        arrivals.append(last_left(line, enters))
                self.check(line, list(trains), min(arrivals))

    def test_at_the_bounds(self):
        self.check(Line([20] * 5, 5), [(0, 5, 60)] * 3, 210)
        self.check(Line([1, 1, 1, 1, 20], 0), [(0, 5, 0)] * 3, 64)
        self.check(Line([1], 0), [(0, 1, 0)] * 3, 3)

    def test_not_later_than_first_come_on_long_lines(self):
        draw = Draw(33)
        for _ in range(60):
            line, trains = crowded_case(draw, 5, 3)
            arrival, orders = best(line, trains)
            self.assertLessEqual(arrival, last_arrival(line, trains, first_come(line, trains)))
            kind, table = least_table(line, trains, orders)
            self.assertEqual(kind, "table")
            self.assertEqual(last_left(line, by_visit(trains, table)), arrival)

    def refused(self, error, line, trains):
        with self.subTest(trains=trains):
            handed = deepcopy(trains)
            with self.assertRaises(error):
                best(line, trains)
            self.assertEqual(trains, handed)

    def test_more_than_three_trains(self):
        for line in (Line([4], 0), Line([4, 6], 1), Line([20] * 5, 5)):
            for count in (4, 5):
                self.refused(TooMany, line, [(0, 1, 0)] * count)
                self.refused(TooMany, line, [(1, 0, 60), (0, 1, 0)] + [(0, len(line.runs()), 7)] * (count - 2))

    def test_wrong_trains(self):
        line = Line([4, 6], 1)
        for trains in BAD_TRAINS:
            self.refused(BadTrains, line, trains)

    def test_wrong_trains_among_more_than_three(self):
        line = Line([4, 6], 1)
        for bad in ((1, 1, 0), (-1, 2, 0), (2, -1, 0), (3, 1, 0), (1, 3, 0), (0, 2, -1), (0, 2, 61)):
            for count in (3, 4):
                for place in range(count + 1):
                    trains = [(0, 2, 5)] * count
                    trains.insert(place, bad)
                    self.refused(BadTrains, line, trains)
        for count in (6, 7):
            self.refused(BadTrains, line, [(0, 2, 5)] * count)


if __name__ == "__main__":
    unittest.main()

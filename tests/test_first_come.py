import unittest
from copy import deepcopy

from haltline.errors import BadTrains
from haltline.line import Line
from haltline.plans import first_come
from haltline.tables import keeps, orders_of
from haltline.times import least_table
from tests.helper import BAD_TRAINS, Draw, by_visit, crowded_case, drawn_case, minute_by_minute, small_trains


class FirstCome(unittest.TestCase):
    def test_one_train(self):
        line = Line([4, 12, 3], 5)
        self.assertEqual(first_come(line, [(0, 3, 0)]), [[0, 4, 16]])
        self.assertEqual(first_come(line, [(3, 0, 60)]), [[60, 63, 75]])
        self.assertEqual(first_come(line, [(1, 2, 7)]), [[7]])

    def test_arguments_by_name(self):
        self.assertEqual(first_come(line=Line([4], 0), trains=[(0, 1, 2)]), [[2]])

    def test_who_could_enter_soonest_goes_first(self):
        self.assertEqual(first_come(Line([4], 0), [(0, 1, 3), (0, 1, 2)]), [[6], [2]])
        self.assertEqual(first_come(Line([4], 2), [(0, 1, 3), (0, 1, 2)]), [[8], [2]])
        self.assertEqual(first_come(Line([4], 5), [(0, 1, 3), (1, 0, 2)]), [[11], [2]])
        self.assertEqual(first_come(Line([4], 1), [(0, 1, 9), (0, 1, 2), (1, 0, 5)]), [[12], [2], [7]])

    def test_of_several_the_least_place(self):
        self.assertEqual(first_come(Line([4], 0), [(0, 1, 3), (0, 1, 3)]), [[3], [7]])
        self.assertEqual(first_come(Line([4], 1), [(0, 1, 3), (1, 0, 3), (0, 1, 3)]), [[3], [8], [13]])
        # Trains 1 and 2 have waited unlike long for train 0, but could both enter at 5.
        self.assertEqual(first_come(Line([4], 1), [(0, 1, 0), (1, 0, 4), (0, 1, 1)]), [[0], [5], [10]])
        # Train 1 is at halt 1 when the gap behind train 2 ends, as is train 0.
        line = Line([4, 6], 1)
        self.assertEqual(first_come(line, [(2, 1, 7), (0, 2, 3), (1, 2, 0)]), [[7], [3, 14], [0]])
        self.assertEqual(first_come(line, [(0, 2, 3), (2, 1, 7), (1, 2, 0)]), [[3, 7], [14], [0]])

    def test_trains_against_each_other(self):
        line = Line([4, 6], 1)
        self.assertEqual(first_come(line, [(0, 2, 0), (2, 0, 0)]), [[0, 7], [0, 6]])
        self.assertEqual(first_come(line, [(0, 2, 0), (2, 0, 3)]), [[0, 10], [3, 9]])
        self.assertEqual(first_come(line, [(0, 2, 0), (2, 0, 5)]), [[0, 4], [11, 17]])
        # At minute 4 both could enter stretch 1.
        self.assertEqual(first_come(line, [(0, 2, 0), (2, 0, 4)]), [[0, 4], [11, 17]])
        self.assertEqual(first_come(line, [(2, 0, 4), (0, 2, 0)]), [[4, 10], [0, 11]])

    def test_a_train_that_waits_is_passed_at_the_halt(self):
        # Train 0 waits at halt 1 for train 1 to come out of stretch 1; train 2 is not yet there.
        line = Line([2, 10], 0)
        self.assertEqual(first_come(line, [(0, 2, 0), (2, 1, 1), (0, 1, 0)]), [[0, 11], [1], [2]])

    def test_it_is_not_always_the_best(self):
        # The short-sighted rule lets train 0 in at 0, though train 1 has far to go.
        line = Line([20, 1], 0)
        self.assertEqual(first_come(line, [(1, 0, 0), (0, 2, 1)]), [[0], [20, 40]])

    def test_at_the_bounds(self):
        line = Line([20] * 5, 5)
        table = first_come(line, [(0, 5, 60)] * 5)
        self.assertEqual(table[0], [60, 80, 100, 120, 140])
        self.assertEqual(table[4], [160, 180, 200, 220, 240])

    def check(self, line, trains):
        with self.subTest(runs=line.runs(), clear=line.clear(), trains=trains):
            table = first_come(line, trains)
            by_visit(trains, table)
            self.assertEqual(table, minute_by_minute(line, trains))
            self.assertIs(keeps(line, trains, table), True)
            kind, least = least_table(line, trains, orders_of(line, trains, table))
            self.assertEqual(kind, "table")
            for row, least_row in zip(table, least):
                for minute, least_minute in zip(row, least_row):
                    self.assertLessEqual(least_minute, minute)

    def test_small_cases(self):
        for runs, gap in (([1], 0), ([2], 1), ([1, 2], 0), ([3, 1], 2)):
            for count in (1, 2):
                for trains in small_trains(len(runs), (0, 1, 3), count):
                    self.check(Line(runs, gap), trains)
        for trains in small_trains(2, (0,), 3):
            self.check(Line([2, 2], 1), trains)

    def test_drawn_cases(self):
        draw = Draw(21)
        for _ in range(300):
            self.check(*drawn_case(draw))
            self.check(*crowded_case(draw))

    def test_wrong_trains(self):
        line = Line([4, 6], 1)
        for trains in BAD_TRAINS:
            with self.subTest(trains=trains):
                handed = deepcopy(trains)
                with self.assertRaises(BadTrains):
                    first_come(line, trains)
                self.assertEqual(trains, handed)


if __name__ == "__main__":
    unittest.main()

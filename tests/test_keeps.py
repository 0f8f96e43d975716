import unittest
from copy import deepcopy
from itertools import product

from haltline.errors import BadTrains
from haltline.line import Line
from haltline.tables import keeps
from tests.helper import BAD_TRAINS, by_visit, drawn_tables, keeps_line, small_trains


class Keeps(unittest.TestCase):
    def kept(self, line, trains, table):
        with self.subTest(runs=line.runs(), clear=line.clear(), trains=trains, table=table):
            self.assertIs(keeps(line, trains, table), True)

    def broken(self, line, trains, table):
        with self.subTest(runs=line.runs(), clear=line.clear(), trains=trains, table=table):
            self.assertIs(keeps(line, trains, table), False)

    def test_arguments_by_name(self):
        self.assertIs(keeps(line=Line([4], 0), trains=[(0, 1, 2)], table=[[2]]), True)

    def test_ready_minute(self):
        line = Line([4, 12, 3], 1)
        self.kept(line, [(0, 3, 7)], [[7, 11, 23]])
        self.kept(line, [(0, 3, 7)], [[8, 12, 24]])
        self.broken(line, [(0, 3, 7)], [[6, 11, 23]])
        self.broken(line, [(0, 3, 7)], [[6, 10, 22]])
        self.kept(line, [(3, 0, 0)], [[0, 3, 15]])
        self.broken(line, [(3, 0, 0)], [[-1, 3, 15]])
        self.kept(line, [(2, 1, 60)], [[60]])
        self.broken(line, [(2, 1, 60)], [[59]])
        self.broken(line, [(2, 1, 60), (1, 0, 60)], [[60], [59]])

    def test_next_stretch(self):
        line = Line([4, 12, 3], 5)
        self.kept(line, [(0, 3, 0)], [[0, 4, 16]])
        self.kept(line, [(0, 3, 0)], [[0, 9, 99]])
        self.broken(line, [(0, 3, 0)], [[0, 3, 16]])
        self.broken(line, [(0, 3, 0)], [[0, 4, 15]])
        self.broken(line, [(0, 3, 0)], [[1, 4, 16]])
        self.broken(line, [(0, 3, 0)], [[0, 5, 16]])
        self.kept(line, [(3, 0, 0)], [[0, 3, 15]])
        self.broken(line, [(3, 0, 0)], [[0, 2, 15]])
        self.broken(line, [(3, 0, 0)], [[0, 3, 14]])
        self.broken(line, [(3, 0, 0)], [[15, 3, 0]])

    def test_two_trains_on_one_stretch(self):
        # In both directions, and whichever of the two goes first.
        for ends in ([(0, 1), (0, 1)], [(1, 0), (1, 0)], [(0, 1), (1, 0)], [(1, 0), (0, 1)]):
            trains = [end + (0,) for end in ends]
            for gap in (0, 1, 5):
                line = Line([4], gap)
                for first in (0, 7):
                    self.kept(line, trains, [[first], [first + 4 + gap]])
                    self.kept(line, trains, [[first + 4 + gap], [first]])
                    self.kept(line, trains, [[first], [first + 90]])
                    for near in range(4 + gap):
                        self.broken(line, trains, [[first], [first + near]])
                        self.broken(line, trains, [[first + near], [first]])

    def test_two_trains_that_meet_within_a_way(self):
        line = Line([4, 6, 2], 1)
        trains = [(0, 3, 0), (3, 0, 0)]
        # They pass at halt 1: the first train waits there from 4 to 9 until the other one has left stretch 1.
        self.kept(line, trains, [[0, 9, 15], [0, 2, 8]])
        self.broken(line, trains, [[0, 8, 15], [0, 2, 8]])
        self.broken(line, trains, [[0, 9, 15], [0, 3, 9]])
        self.broken(line, trains, [[0, 4, 10], [0, 2, 8]])

    def test_trains_pass_at_halts(self):
        line = Line([4, 6], 2)
        trains = [(0, 2, 0), (0, 2, 1)]
        self.kept(line, trains, [[0, 18], [6, 10]])
        self.broken(line, trains, [[0, 17], [6, 10]])
        self.broken(line, trains, [[0, 18], [5, 10]])

    def test_trains_that_are_not_neighbours(self):
        # In every order of the three, the first and the last of the list too near or far enough.
        line = Line([3], 2)
        trains = [(0, 1, 0), (1, 0, 0), (0, 1, 0)]
        for minutes in product(range(0, 12), repeat=3):
            apart = all(abs(minutes[a] - minutes[b]) >= 5 for a, b in ((0, 1), (0, 2), (1, 2)))
            self.assertIs(keeps(line, trains, [[minute] for minute in minutes]), apart, minutes)

    def test_five_trains(self):
        line = Line([3, 20], 2)
        trains = [(0, 1, 0), (1, 2, 0), (1, 0, 0), (2, 1, 0), (0, 1, 0)]
        self.kept(line, trains, [[10], [0], [5], [22], [0]])
        self.broken(line, trains, [[4], [0], [10], [22], [0]])
        self.broken(line, trains, [[10], [0], [5], [21], [0]])

    def test_trains_on_unlike_stretches_do_not_mind_each_other(self):
        self.kept(Line([3, 3], 5), [(0, 1, 0), (1, 2, 0)], [[0], [0]])

    def test_rows_and_minutes_left_out_or_put_in(self):
        line = Line([4, 6], 1)
        trains = [(0, 2, 0), (2, 0, 3)]
        self.kept(line, trains, [[0, 4], [11, 17]])
        for table in (
            [], [[]], [[], []], [[], [], []],
            [[0, 4]], [[11, 17]], [[0, 4], [11, 17], []], [[0, 4], [11, 17], [30, 40]], [[], [0, 4], [11, 17]],
            [[0, 4], []], [[], [11, 17]], [[0], [11, 17]], [[0, 4], [11]],
            [[0, 4, 10], [11, 17]], [[0, 4], [11, 17, 21]], [[0, 4], [11, 17, 99]],
            [[0, 4, 11], [17]], [[0], [4, 11, 17]], [[0, 4, 11, 17]], [[0], [4], [11], [17]],
        ):
            self.broken(line, trains, table)
        self.broken(line, [(0, 1, 0)], [])
        self.broken(line, [(0, 1, 0)], [[]])
        self.broken(line, [(0, 1, 0)], [[0, 4]])
        self.broken(line, [(0, 1, 0), (1, 2, 0)], [[0]])
        self.broken(line, [(0, 1, 0)], [[0], [0]])

    def test_rows_that_are_one_list(self):
        row = [0]
        self.kept(Line([3, 3], 5), [(0, 1, 0), (1, 2, 0)], [row, row])

    def test_wrong_trains_whatever_the_table_is(self):
        line = Line([4, 6], 1)
        for trains in BAD_TRAINS:
            for table in ([], [[]], [[0]], [[0, 4]], [[0, 4], [11, 17]], [[99, 199]] * len(trains), [[]] * 6):
                with self.subTest(trains=trains, table=table):
                    handed = deepcopy((trains, table))
                    with self.assertRaises(BadTrains):
                        keeps(line, trains, table)
                    self.assertEqual((trains, table), handed)

    def test_all_small_tables(self):
        seen = {True: 0, False: 0}
        for gap in (0, 1):
            line = Line([1, 2], gap)
            for trains in small_trains(2, (0, 1), 2):
                visits = sum(abs(train[0] - train[1]) for train in trains)
                for minutes in product(range(5), repeat=visits):
                    rows = list(minutes)
                    table = [[rows.pop(0) for _ in range(abs(train[0] - train[1]))] for train in trains]
                    expected = keeps_line(line, trains, by_visit(trains, table))
                    seen[expected] += 1
                    self.assertIs(keeps(line, trains, table), expected, (gap, trains, table))
        self.assertGreater(seen[True], 500)
        self.assertGreater(seen[False], 500)

    def test_drawn_tables_and_those_next_to_them(self):
        seen = {True: 0, False: 0}
        for line, trains, table in drawn_tables(11, 150):
            self.kept(line, trains, table)
            for train, row in enumerate(table):
                for place in range(len(row)):
                    for step in (-1, 1, -7, 7):
                        moved = deepcopy(table)
                        moved[train][place] += step
                        expected = keeps_line(line, trains, by_visit(trains, moved))
                        seen[expected] += 1
                        self.assertIs(keeps(line, trains, moved), expected, (trains, moved))
        self.assertGreater(seen[True], 100)
        self.assertGreater(seen[False], 100)


if __name__ == "__main__":
    unittest.main()

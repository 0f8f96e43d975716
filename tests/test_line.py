import unittest

from haltline.errors import BadLine, BadTrains
from haltline.line import Line, way
from tests.helper import path_of


class Lines(unittest.TestCase):
    def test_tells_runs_and_gap(self):
        for runs, clear in (
            ([1], 0), ([20], 5), ([4, 12, 3], 1),
            ([1, 1, 1, 1, 1], 0), ([20, 20, 20, 20, 20], 5), ([1, 20, 7, 19, 2], 4),
        ):
            with self.subTest(runs=runs, clear=clear):
                line = Line(runs, clear)
                self.assertEqual(line.runs(), runs)
                self.assertIs(type(line.runs()), list)
                self.assertEqual(line.clear(), clear)
                self.assertIs(type(line.clear()), int)

    def test_arguments_by_name(self):
        line = Line(runs=[2, 3], clear=1)
        self.assertEqual((line.runs(), line.clear()), ([2, 3], 1))

    def test_number_of_stretches(self):
        for count in (0, 6, 7):
            with self.subTest(count), self.assertRaises(BadLine):
                Line([3] * count, 1)

    def test_runs_beyond_the_bounds(self):
        for bad in (0, -1, 21, 22):
            for runs in ([bad], [bad, 5], [5, bad], [5, 5, bad, 5, 5], [5, 5, 5, 5, bad]):
                with self.subTest(runs=runs), self.assertRaises(BadLine):
                    Line(runs, 0)

    def test_gaps_beyond_the_bounds(self):
        for clear in (-2, -1, 6, 7):
            with self.subTest(clear), self.assertRaises(BadLine):
                Line([5], clear)

    def test_refusal_leaves_the_list(self):
        for runs, clear in (([], 0), ([5, 21], 0), ([5, 4], 6), ([5] * 6, 0)):
            before = list(runs)
            with self.assertRaises(BadLine):
                Line(runs, clear)
            self.assertEqual(runs, before)

    def test_list_handed_in_is_not_kept(self):
        runs = [4, 12, 3]
        line = Line(runs, 1)
        self.assertEqual(runs, [4, 12, 3])
        runs[0] = 9
        runs.append(8)
        self.assertEqual(line.runs(), [4, 12, 3])
        self.assertEqual(way(line, (0, 3, 0)), [0, 1, 2])
        with self.assertRaises(BadTrains):
            way(line, (0, 4, 0))

    def test_told_list_is_the_askers_own(self):
        line = Line([4, 12, 3], 1)
        told = line.runs()
        told[1] = 7
        told.pop()
        self.assertEqual(line.runs(), [4, 12, 3])
        self.assertEqual(line.clear(), 1)
        self.assertIsNot(line.runs(), line.runs())

    def test_asking_does_not_empty_the_line(self):
        line = Line([4, 12], 3)
        line.clear()
        self.assertEqual((line.runs(), line.clear()), ([4, 12], 3))


class Ways(unittest.TestCase):
    def setUp(self):
        self.line = Line([4, 12, 3, 5, 6], 1)

    def test_up_and_down(self):
        for train, stretches in (
            ((0, 1, 0), [0]), ((1, 0, 0), [0]), ((4, 5, 0), [4]), ((5, 4, 0), [4]),
            ((0, 5, 0), [0, 1, 2, 3, 4]), ((5, 0, 0), [4, 3, 2, 1, 0]),
            ((1, 3, 7), [1, 2]), ((3, 1, 7), [2, 1]), ((2, 3, 7), [2]), ((3, 2, 7), [2]),
        ):
            with self.subTest(train):
                told = way(self.line, train)
                self.assertEqual(told, stretches)
                self.assertIs(type(told), list)

    def test_every_pair_of_halts(self):
        for stretches in range(1, 6):
            line = Line([2] * stretches, 0)
            for start in range(-2, stretches + 3):
                for end in range(-2, stretches + 3):
                    there = 0 <= start <= stretches and 0 <= end <= stretches and start != end
                    with self.subTest(stretches=stretches, start=start, end=end):
                        if there:
                            self.assertEqual(way(line, (start, end, 5)), path_of((start, end, 5)))
                        else:
                            with self.assertRaises(BadTrains):
                                way(line, (start, end, 5))

    def test_like_halts(self):
        for halt in range(6):
            with self.subTest(halt), self.assertRaises(BadTrains):
                way(self.line, (halt, halt, 0))

    def test_halts_that_are_not_there(self):
        for train in ((-1, 2, 0), (2, -1, 0), (6, 2, 0), (2, 6, 0), (-1, 6, 0), (6, -1, 0)):
            with self.subTest(train), self.assertRaises(BadTrains):
                way(self.line, train)

    def test_ready_minutes(self):
        for ready in (0, 1, 59, 60):
            with self.subTest(ready):
                self.assertEqual(way(self.line, (0, 2, ready)), [0, 1])
        for ready in (-2, -1, 61, 62):
            with self.subTest(ready), self.assertRaises(BadTrains):
                way(self.line, (0, 2, ready))

    def test_tuples_of_another_length(self):
        for train in ((), (0,), (0, 2), (0, 2, 5, 5)):
            with self.subTest(train), self.assertRaises(BadTrains):
                way(self.line, train)

    def test_arguments_by_name(self):
        self.assertEqual(way(line=self.line, train=(0, 2, 0)), [0, 1])

    def test_told_list_is_the_askers_own(self):
        told = way(self.line, (0, 3, 0))
        told.append(9)
        self.assertEqual(way(self.line, (0, 3, 0)), [0, 1, 2])
        self.assertEqual(self.line.runs(), [4, 12, 3, 5, 6])


if __name__ == "__main__":
    unittest.main()

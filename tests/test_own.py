"""Point 1: nothing handed in is changed or kept, and what is told is the asker's own."""

import unittest
from copy import deepcopy

from haltline.errors import HaltError
from haltline.line import Line, way
from haltline.notes import read, written
from haltline.plans import best, first_come
from haltline.tables import keeps, last_arrival, orders_of
from haltline.times import chain, latest, least_table
from tests.helper import BAD_TRAINS, STUCK, Draw, drawn_cases, waiting_table

LINE = Line([4, 6], 1)
TRAINS = [(0, 2, 0), (2, 0, 3), (0, 1, 5)]
ORDERS = [[0, 1, 2], [0, 1]]
TABLE = [[0, 4], [11, 17], [22]]
OWN = (LINE, TRAINS, ORDERS, TABLE)

# Every function that is handed or tells lists, over a line, trains, orders and a table.
TELLING = (
    ("runs", lambda line, trains, orders, table: line.runs()),
    ("way", lambda line, trains, orders, table: way(line, trains[0])),
    ("least_table", lambda line, trains, orders, table: least_table(line, trains, orders)),
    ("ring", lambda line, trains, orders, table: least_table(*STUCK)),
    ("chain", lambda line, trains, orders, table: chain(line, trains, orders)),
    ("latest", lambda line, trains, orders, table: latest(line, trains, orders, 900)),
    ("orders_of", lambda line, trains, orders, table: orders_of(line, trains, table)),
    ("first_come", lambda line, trains, orders, table: first_come(line, trains)),
    ("best", lambda line, trains, orders, table: best(line, trains[:3])),
    ("runs of read", lambda line, trains, orders, table: read(written(line)).runs()),
)
ANSWERING = TELLING + (
    ("keeps", lambda line, trains, orders, table: keeps(line, trains, table)),
    ("last_arrival", lambda line, trains, orders, table: last_arrival(line, trains, table)),
    ("clear", lambda line, trains, orders, table: line.clear()),
    ("written", lambda line, trains, orders, table: written(line)),
)
CALLS = ANSWERING + (
    ("latest too soon", lambda line, trains, orders, table: latest(line, trains, orders, 0)),
    ("best of all", lambda line, trains, orders, table: best(line, trains)),
)


def lists_in(value):
    found = [value] if type(value) is list else []
    if type(value) in (list, tuple):
        for part in value:
            found.extend(lists_in(part))
    return found


def spoil(value):
    for one in lists_in(value):
        one.reverse()
        one.append(99)


def cases(seed, count):
    draw = Draw(seed)
    for line, trains, orders in drawn_cases(seed, count):
        yield line, trains, orders, waiting_table(draw, line, trains)
    yield OWN
    # Two stretches that no train goes by, so that two told lists are empty.
    yield Line([4, 6, 2], 1), [(1, 2, 0)], [[], [0], []], [[7]]


def refused_cases():
    line, trains, orders, table = OWN
    yield STUCK + (table,)
    for wrong in ([], [[0, 1, 2]], [[0, 1], [0, 1]], [[0, 1, 2], [0, 2]], [[2, 1, 0], [0, 0]]):
        yield line, trains, wrong, table
    for wrong in ([], [[]], [[0, 4], [11, 17]], [[0, 4], [11, 17], []], [[0, 4], [10, 17], [22]]):
        yield line, trains, orders, wrong
    for wrong in BAD_TRAINS:
        yield line, wrong, orders, table
    yield line, trains + trains[:2], orders, table


class AskersOwn(unittest.TestCase):
    def check_handed_in(self, case):
        line = case[0]
        handed = deepcopy((line.runs(), line.clear(), case[1:]))
        for name, call in CALLS:
            if name == "way" and not case[1]:
                continue
            with self.subTest(name, case=case[1:]):
                try:
                    call(*case)
                except HaltError:
                    pass
                self.assertEqual((line.runs(), line.clear(), case[1:]), handed)

    def test_handed_in_is_left_as_it_was(self):
        for case in cases(5, 60):
            self.check_handed_in(case)

    def test_handed_in_is_left_as_it_was_behind_a_refusal(self):
        for case in refused_cases():
            self.check_handed_in(case)

    def test_no_two_lists_told_are_one(self):
        for case in cases(6, 60):
            handed = lists_in(case)
            for name, call in TELLING:
                with self.subTest(name, case=case[1:]):
                    try:
                        told = lists_in((call(*case), call(*case)))
                    except HaltError:
                        continue
                    self.assertTrue(told)
                    for place, one in enumerate(told):
                        for other in told[:place] + handed:
                            self.assertIsNot(one, other)

    def test_changing_what_was_told_changes_nothing_told_later(self):
        for name, call in TELLING:
            with self.subTest(name):
                before = [other(*OWN) for _, other in ANSWERING]
                first = call(*OWN)
                kept = deepcopy(first)
                spoil(first)
                self.assertNotEqual(first, kept)
                self.assertEqual(call(*OWN), kept)
                self.assertEqual([other(*OWN) for _, other in ANSWERING], before)
                self.assertEqual((LINE.runs(), LINE.clear()), ([4, 6], 1))
                self.assertEqual(TRAINS, [(0, 2, 0), (2, 0, 3), (0, 1, 5)])
                self.assertEqual(ORDERS, [[0, 1, 2], [0, 1]])
                self.assertEqual(TABLE, [[0, 4], [11, 17], [22]])

    def test_changing_what_was_handed_in_changes_nothing_told(self):
        for name, call in TELLING:
            with self.subTest(name):
                runs, trains, orders, table = [4, 6], list(TRAINS), deepcopy(ORDERS), deepcopy(TABLE)
                line = Line(runs, 1)
                told = call(line, trains, orders, table)
                kept = deepcopy(told)
                spoil((runs, trains, orders, table))
                self.assertEqual(told, kept)
                self.assertEqual(call(line, list(TRAINS), deepcopy(ORDERS), deepcopy(TABLE)), kept)

    def test_trains_changed_between_two_calls(self):
        trains, orders = [(0, 2, 0)], [[0], [0]]
        self.assertEqual(least_table(LINE, trains, orders), ("table", [[0, 4]]))
        self.assertEqual(first_come(LINE, trains), [[0, 4]])
        self.assertEqual(best(LINE, trains), (10, [[0], [0]]))
        trains[0] = (2, 0, 9)
        self.assertEqual(least_table(LINE, trains, orders), ("table", [[9, 15]]))
        self.assertEqual(chain(LINE, trains, orders), [(0, 1), (0, 0)])
        self.assertEqual(latest(LINE, trains, orders, 20), [[10, 16]])
        self.assertEqual(first_come(LINE, trains), [[9, 15]])
        self.assertEqual(best(LINE, trains), (19, [[0], [0]]))

    def test_table_changed_between_two_calls(self):
        trains, table = [(0, 1, 0), (0, 1, 0)], [[0], [9]]
        self.assertEqual(orders_of(LINE, trains, table), [[0, 1], []])
        self.assertEqual(last_arrival(LINE, trains, table), 13)
        table[0][0] = 20
        self.assertIs(keeps(LINE, trains, table), True)
        self.assertEqual(orders_of(LINE, trains, table), [[1, 0], []])
        self.assertEqual(last_arrival(LINE, trains, table), 24)
        table.pop()
        self.assertIs(keeps(LINE, trains, table), False)

    def test_lines_read_from_one_text_are_apart(self):
        one, other = read("4-6 clear 1"), read("4-6 clear 1")
        one.runs().append(9)
        self.assertEqual((one.runs(), other.runs()), ([4, 6], [4, 6]))
        self.assertIsNot(one.runs(), other.runs())


if __name__ == "__main__":
    unittest.main()

"""Point 1: nothing handed in is changed or kept, and what is told is the asker's own."""

import unittest
from copy import deepcopy

from haltline.errors import HaltError
from haltline.line import Line, way
from haltline.times import chain, latest, least_table
from tests.helper import STUCK, drawn_cases

LINE = Line([4, 6], 1)
TRAINS = [(0, 2, 0), (2, 0, 3), (0, 1, 5)]
ORDERS = [[0, 1, 2], [0, 1]]


def lists_in(value):
    found = [value] if type(value) is list else []
    if type(value) in (list, tuple):
        for part in value:
            found.extend(lists_in(part))
    return found


def spoil(value):
    for one in lists_in(value):
        one.reverse()
        one.append(99)


CALLS = (
    ("way", lambda line, trains, orders: way(line, trains[0])),
    ("least_table", least_table),
    ("chain", chain),
    ("latest", lambda line, trains, orders: latest(line, trains, orders, 900)),
    ("latest too soon", lambda line, trains, orders: latest(line, trains, orders, 0)),
)


class AskersOwn(unittest.TestCase):
    def test_handed_in_is_left_as_it_was(self):
        cases = list(drawn_cases(5, 60)) + [STUCK, (LINE, TRAINS, ORDERS)]
        for line, trains, orders in cases:
            handed = deepcopy((line.runs(), line.clear(), trains, orders))
            for name, call in CALLS:
                with self.subTest(name, trains=trains, orders=orders):
                    try:
                        call(line, trains, orders)
                    except HaltError:
                        pass
                    self.assertEqual((line.runs(), line.clear(), trains, orders), handed)

    def test_no_two_lists_told_are_one(self):
        for line, trains, orders in list(drawn_cases(6, 60)) + [STUCK, (LINE, TRAINS, ORDERS)]:
            for name, call in CALLS:
                with self.subTest(name, trains=trains, orders=orders):
                    try:
                        told = lists_in((call(line, trains, orders), call(line, trains, orders)))
                    except HaltError:
                        continue
                    own = lists_in((trains, orders))
                    for place, one in enumerate(told):
                        for other in told[:place] + own:
                            self.assertIsNot(one, other)

    def test_changing_what_was_told_changes_nothing_told_later(self):
        stuck_call = ("ring", lambda line, trains, orders: least_table(*STUCK))
        for name, call in CALLS[:4] + (stuck_call,):
            with self.subTest(name):
                first = call(LINE, TRAINS, ORDERS)
                kept = deepcopy(first)
                spoil(first)
                self.assertNotEqual(first, kept)
                self.assertEqual(call(LINE, TRAINS, ORDERS), kept)
                self.assertEqual((LINE.runs(), LINE.clear()), ([4, 6], 1))
                self.assertEqual(TRAINS, [(0, 2, 0), (2, 0, 3), (0, 1, 5)])
                self.assertEqual(ORDERS, [[0, 1, 2], [0, 1]])

    def test_changing_what_was_handed_in_changes_nothing_told(self):
        for name, call in CALLS[:4]:
            with self.subTest(name):
                runs, trains, orders = [4, 6], list(TRAINS), deepcopy(ORDERS)
                line = Line(runs, 1)
                told = call(line, trains, orders)
                kept = deepcopy(told)
                spoil((runs, trains, orders))
                self.assertEqual(told, kept)
                self.assertEqual(call(line, list(TRAINS), deepcopy(ORDERS)), kept)

    def test_trains_changed_between_two_calls(self):
        trains, orders = [(0, 2, 0)], [[0], [0]]
        self.assertEqual(least_table(LINE, trains, orders), ("table", [[0, 4]]))
        trains[0] = (2, 0, 9)
        self.assertEqual(least_table(LINE, trains, orders), ("table", [[9, 15]]))
        self.assertEqual(chain(LINE, trains, orders), [(0, 1), (0, 0)])
        self.assertEqual(latest(LINE, trains, orders, 20), [[10, 16]])


if __name__ == "__main__":
    unittest.main()

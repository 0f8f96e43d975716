import unittest

from haltline.errors import Sticks
from haltline.line import Line
from haltline.times import chain
from tests.helper import STUCK, drawn_cases, last_left, path_of, pushed_apart, small_cases, visits_of


class Chains(unittest.TestCase):
    def check_chain(self, line, trains, orders):
        """Point 7, sentence by sentence: which chain is told, of several, is not promised."""
        enters = pushed_apart(line, trains, orders)
        runs = line.runs()
        told = chain(line, trains, orders)
        self.assertIs(type(told), list)
        self.assertTrue(told)
        for visit in told:
            self.assertIs(type(visit), tuple)
            self.assertIn(visit, visits_of(trains))
        first, last = told[0], told[-1]
        self.assertEqual(first[1], path_of(trains[first[0]])[0])
        self.assertEqual(enters[first], trains[first[0]][2])
        for here, there in zip(told, told[1:]):
            left = enters[here] + runs[here[1]]
            if here[0] == there[0]:
                path = path_of(trains[here[0]])
                self.assertEqual(path.index(there[1]), path.index(here[1]) + 1)
                self.assertEqual(enters[there], left)
            else:
                self.assertEqual(here[1], there[1])
                order = orders[here[1]]
                self.assertEqual(order.index(there[0]), order.index(here[0]) + 1)
                self.assertEqual(enters[there], left + line.clear())
        self.assertEqual(enters[last] + runs[last[1]], last_left(line, enters))
        return told

    def test_one_train(self):
        line = Line([4, 12, 3], 1)
        self.assertEqual(self.check_chain(line, [(0, 3, 9)], [[0], [0], [0]]), [(0, 0), (0, 1), (0, 2)])
        self.assertEqual(self.check_chain(line, [(3, 0, 0)], [[0], [0], [0]]), [(0, 2), (0, 1), (0, 0)])
        self.assertEqual(self.check_chain(line, [(1, 2, 60)], [[], [0], []]), [(0, 1)])

    def test_over_from_one_train_to_another(self):
        # The only chain there can be: the second train waits at halt 2, then goes on alone.
        line = Line([4, 6], 1)
        self.assertEqual(
            self.check_chain(line, [(0, 2, 0), (2, 0, 3)], [[0, 1], [0, 1]]),
            [(0, 0), (0, 1), (1, 1), (1, 0)],
        )

    def test_a_train_that_waits_for_nobody_ends_last(self):
        line = Line([4, 6], 1)
        self.assertEqual(self.check_chain(line, [(0, 2, 0), (2, 0, 60)], [[0, 1], [0, 1]]), [(1, 1), (1, 0)])

    def test_the_last_arrival_need_not_be_at_the_end_of_the_list(self):
        line = Line([20, 1], 0)
        self.assertEqual(self.check_chain(line, [(0, 1, 5), (1, 2, 0)], [[0], [1]]), [(0, 0)])

    def test_a_halt_where_a_train_waits_is_no_link(self):
        # Train 0 is at halt 1 at minute 1 and waits there for train 1, which is on stretch 1 until 15.
        line = Line([1, 10], 2)
        self.assertEqual(self.check_chain(line, [(0, 2, 0), (2, 1, 5)], [[0], [1, 0]]), [(1, 1), (0, 1)])

    def test_orders_that_stick(self):
        with self.assertRaises(Sticks):
            chain(*STUCK)

    def check_all(self, cases):
        seen = {True: 0, False: 0}
        for line, trains, orders in cases:
            sticks = pushed_apart(line, trains, orders) is None
            seen[sticks] += 1
            with self.subTest(runs=line.runs(), clear=line.clear(), trains=trains, orders=orders):
                if sticks:
                    with self.assertRaises(Sticks):
                        chain(line, trains, orders)
                else:
                    self.check_chain(line, trains, orders)
        self.assertGreater(seen[True], 50)
        self.assertGreater(seen[False], 100)

    def test_small_cases(self):
        self.check_all(small_cases())

    def test_drawn_cases(self):
        self.check_all(drawn_cases(3, 400))


if __name__ == "__main__":
    unittest.main()

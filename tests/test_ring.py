import unittest

from haltline.line import Line
from haltline.times import least_table
from tests.helper import STUCK, drawn_cases, pushed_apart, small_cases, visits_of, waits_for


class Rings(unittest.TestCase):
    def check_ring(self, line, trains, orders):
        """What a ring has to be: which one is told, of several, is not promised."""
        told = least_table(line, trains, orders)
        self.assertIs(type(told), tuple)
        self.assertEqual(len(told), 2)
        self.assertEqual(told[0], "ring")
        ring = told[1]
        self.assertIs(type(ring), list)
        self.assertGreaterEqual(len(ring), 2)
        self.assertEqual(len(set(ring)), len(ring))
        for visit in ring:
            self.assertIs(type(visit), tuple)
            self.assertIn(visit, visits_of(trains))
        for visit, other in zip(ring, ring[1:] + ring[:1]):
            self.assertTrue(waits_for(trains, orders, visit, other), (ring, visit, other))
        return ring

    def test_two_trains_against_each_other(self):
        self.check_ring(*STUCK)
        line = Line([4, 6, 2], 0)
        for orders in ([[1, 0], [0, 1], [0, 1]], [[0, 1], [1, 0], [0, 1]], [[1, 0], [1, 0], [0, 1]]):
            self.check_ring(line, [(0, 3, 0), (3, 0, 0)], orders)

    def test_a_ring_through_three_trains(self):
        # Train 2 stands between the other two in the order of stretch 0. It is the only ring there is.
        line = Line([4, 6, 2, 3], 1)
        trains = [(3, 0, 0), (0, 2, 0), (0, 2, 0)]
        ring = self.check_ring(line, trains, [[0, 2, 1], [1, 0, 2], [0], []])
        self.assertEqual(set(ring), {(1, 1), (1, 0), (2, 0), (0, 0), (0, 1)})

    def test_a_ring_through_five_trains(self):
        # Two trains stick, and between them in the orders stand three short ones. There is no other ring.
        line = Line([4, 6], 0)
        trains = [(0, 2, 0), (2, 0, 0), (0, 1, 0), (1, 0, 0), (2, 1, 0)]
        ring = self.check_ring(line, trains, [[1, 2, 3, 0], [0, 4, 1]])
        self.assertEqual(set(ring), {(0, 0), (3, 0), (2, 0), (1, 0), (1, 1), (4, 1), (0, 1)})

    def test_several_rings(self):
        line = Line([4, 6, 2, 3, 1], 1)
        trains = [(0, 5, 0), (5, 0, 0), (0, 5, 0), (5, 0, 0)]
        self.check_ring(line, trains, [[1, 0, 3, 2], [0, 1, 2, 3], [1, 0, 3, 2], [0, 1, 2, 3], [3, 2, 1, 0]])
        self.check_ring(line, trains, [[3, 1, 2, 0], [1, 3, 0, 2], [3, 2, 1, 0], [2, 0, 1, 3], [0, 2, 3, 1]])

    def test_visits_that_only_wait_for_a_ring_are_not_in_it(self):
        # Train 0 is let on behind the two that stick.
        line = Line([4, 6, 2], 1)
        trains = [(0, 3, 0), (0, 2, 0), (2, 0, 0)]
        orders = [[2, 1, 0], [1, 2, 0], [0]]
        ring = self.check_ring(line, trains, orders)
        self.assertEqual({visit[0] for visit in ring}, {1, 2})

    def test_visits_ahead_of_a_ring_are_not_in_it(self):
        line = Line([4, 6, 2], 1)
        trains = [(0, 2, 0), (3, 0, 0)]
        ring = self.check_ring(line, trains, [[1, 0], [0, 1], [1]])
        self.assertNotIn((1, 2), ring)

    def test_orders_that_pass_at_a_halt_do_not_stick(self):
        self.assertEqual(least_table(Line([4, 6], 1), [(0, 2, 0), (0, 2, 0)], [[0, 1], [1, 0]])[0], "table")
        self.assertEqual(least_table(Line([4, 6], 1), [(0, 2, 0), (2, 0, 0)], [[0, 1], [1, 0]])[0], "table")

    def check_all(self, cases):
        sizes = set()
        for line, trains, orders in cases:
            if pushed_apart(line, trains, orders) is None:
                with self.subTest(runs=line.runs(), trains=trains, orders=orders):
                    sizes.add(len(self.check_ring(line, trains, orders)))
        return sizes

    def test_small_cases(self):
        self.assertTrue(self.check_all(small_cases()))

    def test_drawn_cases(self):
        self.assertGreater(len(self.check_all(drawn_cases(2, 400))), 2)


if __name__ == "__main__":
    unittest.main()

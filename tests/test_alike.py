"""What must come out alike where a line and its trains are turned round, doubled or made later."""

import unittest

from haltline.line import Line, way
from haltline.plans import best, first_come
from haltline.tables import keeps, last_arrival, orders_of
from haltline.times import chain, latest, least_table
from tests.helper import Draw, crowded_case, drawn_case, drawn_orders, moving_orders


def from_the_other_end(line, trains):
    last = len(line.runs())
    return Line(line.runs()[::-1], line.clear()), [(last - start, last - end, ready) for start, end, ready in trains]


def doubled(line, trains):
    twice = Line([2 * run for run in line.runs()], 2 * line.clear())
    return twice, [(start, end, 2 * ready) for start, end, ready in trains]


def later(trains, minutes):
    return [(start, end, ready + minutes) for start, end, ready in trains]


def each_minute(table, change):
    return [[change(minute) for minute in row] for row in table]


def drawn(seed, count, most_trains=5):
    draw = Draw(seed)
    for _ in range(count):
        for line, trains in (drawn_case(draw, 5, most_trains), crowded_case(draw, 5, most_trains)):
            yield draw, line, trains


def easy_to_double(line, trains):
    """The line and the trains with minutes that are within the bounds when doubled, too."""
    half = Line([(run + 1) // 2 for run in line.runs()], line.clear() // 2)
    return half, [(start, end, ready // 2) for start, end, ready in trains]


class Alike(unittest.TestCase):
    def check_orders(self, draw, one, other, turned, change):
        """For orders that may stick and some that don't: the same kind, and all minutes changed alike."""
        line, trains = one
        for orders in (drawn_orders(draw, line, trains), moving_orders(draw, line, trains)):
            kind, told = least_table(line, trains, orders)
            other_kind, other_told = least_table(*other, turned(orders))
            self.assertEqual(other_kind, kind)
            if kind == "ring":
                continue
            self.assertEqual(other_told, each_minute(told, change))
            self.check_table(one, other, turned, change, told)
            limit = last_arrival(line, trains, told) + draw.upto(9)
            late = latest(line, trains, orders, limit)
            self.assertEqual(latest(*other, turned(orders), change(limit)), each_minute(late, change))
            self.check_table(one, other, turned, change, late)
            self.assertEqual(self.end_of_chain(*other, turned(orders)), change(self.end_of_chain(*one, orders)))

    def end_of_chain(self, line, trains, orders):
        train, stretch = chain(line, trains, orders)[-1]
        row = least_table(line, trains, orders)[1][train]
        return row[way(line, trains[train]).index(stretch)] + line.runs()[stretch]

    def check_table(self, one, other, turned, change, table):
        changed = each_minute(table, change)
        self.assertIs(keeps(*one, table), True)
        self.assertIs(keeps(*other, changed), True)
        self.assertEqual(orders_of(*other, changed), turned(orders_of(*one, table)))
        self.assertEqual(last_arrival(*other, changed), change(last_arrival(*one, table)))

    def check_first_come(self, one, other, turned, change):
        table = first_come(*one)
        self.assertEqual(first_come(*other), each_minute(table, change))
        self.check_table(one, other, turned, change, table)

    def check_best(self, one, other, change):
        self.assertEqual(best(*other)[0], change(best(*one)[0]))

    def check_all(self, draw, one, other, turned, change):
        with self.subTest(runs=one[0].runs(), clear=one[0].clear(), trains=one[1]):
            self.check_orders(draw, one, other, turned, change)
            self.check_first_come(one, other, turned, change)
            if len(one[1]) <= 3:
                self.check_best(one, other, change)

    def test_halts_numbered_from_the_other_end(self):
        for draw, line, trains in drawn(41, 80):
            other = from_the_other_end(line, trains)
            self.check_all(draw, (line, trains), other, lambda orders: orders[::-1], lambda minute: minute)

    def test_all_minutes_doubled(self):
        for draw, line, trains in drawn(42, 80):
            one = easy_to_double(line, trains)
            self.check_all(draw, one, doubled(*one), lambda orders: orders, lambda minute: 2 * minute)

    def test_all_trains_ready_later(self):
        for draw, line, trains in drawn(43, 80):
            room = 60 - max(ready for _, _, ready in trains)
            for minutes in (min(1, room), draw.upto(room), room):
                other = line, later(trains, minutes)
                self.check_all(
                    draw, (line, trains), other, lambda orders: orders, lambda minute: minute + minutes,
                )

    def test_ways_from_the_other_end(self):
        for _, line, trains in drawn(44, 40):
            other, turned = from_the_other_end(line, trains)
            for train, back in zip(trains, turned):
                stretches = way(line, train)
                self.assertEqual(way(other, back), [len(line.runs()) - 1 - stretch for stretch in stretches])


if __name__ == "__main__":
    unittest.main()

"""What several tests need: the points of the document in plain words of code.

Nothing here uses the program but Line, so that the tests hold the program
against a second reading of the document.
"""

from itertools import permutations, product

from haltline.line import Line


def path_of(train):
    """The way of a train, halt by halt."""
    path = []
    halt = train[0]
    while halt != train[1]:
        if halt < train[1]:
            path.append(halt)
            halt += 1
        else:
            halt -= 1
            path.append(halt)
    return path


def visits_of(trains):
    return [(k, stretch) for k, train in enumerate(trains) for stretch in path_of(train)]


def by_visit(trains, table):
    """A table as a dict from visits to minutes; its form must be that of a table."""
    paths = [path_of(train) for train in trains]
    assert type(table) is list and len(table) == len(trains), table
    enters = {}
    for k, path in enumerate(paths):
        assert type(table[k]) is list and len(table[k]) == len(path), table
        for stretch, minute in zip(path, table[k]):
            assert type(minute) is int, table
            enters[(k, stretch)] = minute
    return enters


def as_table(trains, enters):
    return [[enters[(k, stretch)] for stretch in path_of(train)] for k, train in enumerate(trains)]


def keeps_line(line, trains, enters):
    """Point 4, over minutes by visit."""
    runs, gap = line.runs(), line.clear()
    for k, train in enumerate(trains):
        path = path_of(train)
        if enters[(k, path[0])] < train[2]:
            return False
        for here, there in zip(path, path[1:]):
            if enters[(k, there)] < enters[(k, here)] + runs[here]:
                return False
    for one, other in product(enters, enters):
        if one[1] == other[1] and one[0] < other[0]:
            apart = runs[one[1]] + gap
            if enters[other] < enters[one] + apart and enters[one] < enters[other] + apart:
                return False
    return True


def keeps_orders(orders, enters):
    """Point 5, over minutes by visit of a table that keeps the line."""
    for stretch, order in enumerate(orders):
        minutes = [enters[(k, stretch)] for k in order]
        if minutes != sorted(minutes):
            return False
    return True


def keeps_both(line, trains, orders, enters):
    return keeps_line(line, trains, enters) and keeps_orders(orders, enters)


def last_left(line, enters):
    runs = line.runs()
    return max(minute + runs[visit[1]] for visit, minute in enters.items())


def waits_for(trains, orders, visit, other):
    """Point 6: whether a visit waits for the other one, straight."""
    path = path_of(trains[visit[0]])
    if visit[0] == other[0]:
        return path.index(visit[1]) == path.index(other[1]) + 1
    if visit[1] == other[1]:
        order = orders[visit[1]]
        return order.index(visit[0]) == order.index(other[0]) + 1
    return False


def pushed_apart(line, trains, orders):
    """The least table by visit, or None where the orders stick.

    The second way: every train starts at its ready minute, and whatever
    stands too early is pushed back, over and over, until nothing does. Where
    that goes on beyond all visits one behind the other, it never ends.
    """
    runs, gap = line.runs(), line.clear()
    enters = {visit: trains[visit[0]][2] for visit in visits_of(trains)}
    bound = 61 + sum(runs[visit[1]] + gap for visit in enters)
    moved = True
    while moved:
        moved = False
        for k, train in enumerate(trains):
            path = path_of(train)
            for here, there in zip(path, path[1:]):
                soonest = enters[(k, here)] + runs[here]
                if enters[(k, there)] < soonest:
                    enters[(k, there)] = soonest
                    moved = True
        for stretch, order in enumerate(orders):
            for place, k in enumerate(order):
                for first in order[:place]:
                    soonest = enters[(first, stretch)] + runs[stretch] + gap
                    if enters[(k, stretch)] < soonest:
                        enters[(k, stretch)] = soonest
                        moved = True
        if max(enters.values()) > bound:
            return None
    return enters


def turned_round(line, trains, orders, limit):
    """The latest table by visit: time and ways turned round, then the second way again."""
    back = [(train[1], train[0], 0) for train in trains]
    enters = pushed_apart(line, back, [order[::-1] for order in orders])
    runs = line.runs()
    return {visit: limit - minute - runs[visit[1]] for visit, minute in enters.items()}


def all_tables(line, trains, orders, limit):
    """Every table by visit that keeps the line, the orders and the limit, by trying all."""
    runs = line.runs()
    visits = visits_of(trains)
    spans = [range(trains[k][2], limit - runs[stretch] + 1) for k, stretch in visits]
    for minutes in product(*spans):
        enters = dict(zip(visits, minutes))
        if keeps_both(line, trains, orders, enters):
            yield enters


def all_orders(line, trains):
    """Every list of orders for the trains, those that stick among them."""
    going = [
        [k for k, train in enumerate(trains) if stretch in path_of(train)]
        for stretch in range(len(line.runs()))
    ]
    for choice in product(*[list(permutations(ks)) for ks in going]):
        yield [list(order) for order in choice]


class Draw:
    """Numbers that look drawn and are the same in every run."""

    def __init__(self, seed):
        self.state = seed

    def upto(self, most):
        self.state = (self.state * 6364136223846793005 + 1442695040888963407) % 2**64
        return (self.state >> 33) % (most + 1)


def drawn_case(draw, most_stretches=5, most_trains=5):
    """A line and trains; half of the trains go by the whole of it."""
    stretches = 1 + draw.upto(most_stretches - 1)
    line = Line([1 + draw.upto(19) for _ in range(stretches)], draw.upto(5))
    trains = []
    for _ in range(1 + draw.upto(most_trains - 1)):
        start = draw.upto(stretches)
        end = (start + 1 + draw.upto(stretches - 1)) % (stretches + 1)
        if draw.upto(1):
            start, end = (0, stretches) if start < end else (stretches, 0)
        trains.append((start, end, draw.upto(60)))
    return line, trains


def drawn_orders(draw, line, trains):
    """Orders that may stick."""
    orders = [[] for _ in line.runs()]
    for k, stretch in visits_of(trains):
        orders[stretch].insert(draw.upto(len(orders[stretch])), k)
    return orders


def moving_orders(draw, line, trains):
    """Orders that don't stick: the trains are let go on one at a time."""
    orders = [[] for _ in line.runs()]
    ahead = [path_of(train) for train in trains]
    while any(ahead):
        moving = [k for k, path in enumerate(ahead) if path]
        k = moving[draw.upto(len(moving) - 1)]
        orders[ahead[k].pop(0)].append(k)
    return orders


def minute_by_minute(line, trains):
    """The table of first come, first served: at every minute each train that can go on goes on, by their places."""
    runs, gap = line.runs(), line.clear()
    ahead = [path_of(train) for train in trains]
    there = [train[2] for train in trains]
    clear = [0 for _ in runs]
    table = [[] for _ in trains]
    minute = 0
    while any(ahead):
        for k in range(len(trains)):
            if ahead[k] and there[k] <= minute and clear[ahead[k][0]] <= minute:
                stretch = ahead[k].pop(0)
                table[k].append(minute)
                there[k] = minute + runs[stretch]
                clear[stretch] = minute + runs[stretch] + gap
        minute += 1
    return table


def best_of_all_orders(line, trains):
    """The least last arrival of all orders that don't stick."""
    least = [pushed_apart(line, trains, orders) for orders in all_orders(line, trains)]
    return min(last_left(line, enters) for enters in least if enters is not None)


def counted_orders(line, trains, enters):
    """The orders that a table by visit keeps: each train stands behind as many as enter ahead of it."""
    orders = []
    for stretch in range(len(line.runs())):
        going = [k for k, train in enumerate(trains) if stretch in path_of(train)]
        order = [None for _ in going]
        for k in going:
            ahead = [other for other in going if enters[(other, stretch)] < enters[(k, stretch)]]
            order[len(ahead)] = k
        orders.append(order)
    return orders


def waiting_table(draw, line, trains, most_wait=3):
    """A table that keeps the line: the trains are let go on one at a time, and may wait longer than they must."""
    runs, gap = line.runs(), line.clear()
    ahead = [path_of(train) for train in trains]
    there = [train[2] for train in trains]
    clear = [0 for _ in runs]
    table = [[] for _ in trains]
    while any(ahead):
        moving = [k for k, path in enumerate(ahead) if path]
        k = moving[draw.upto(len(moving) - 1)]
        stretch = ahead[k].pop(0)
        minute = max(there[k], clear[stretch]) + draw.upto(most_wait)
        table[k].append(minute)
        there[k] = minute + runs[stretch]
        clear[stretch] = minute + runs[stretch] + gap
    return table


def drawn_tables(seed, count):
    """Lines and trains of all sizes, each with a table that keeps the line, with waits and without."""
    draw = Draw(seed)
    for _ in range(count):
        line, trains = drawn_case(draw)
        yield line, trains, waiting_table(draw, line, trains, 0)
        yield line, trains, waiting_table(draw, line, trains)


def crowded_case(draw, most_stretches=5, most_trains=5):
    """A line and trains that are ready at about the same minute, so that they are in each other's way."""
    line, trains = drawn_case(draw, most_stretches, most_trains)
    return line, [(start, end, draw.upto(8)) for start, end, _ in trains]


def small_trains(stretches, readies, count):
    """Every list of so many trains on so many stretches with these ready minutes."""
    halts = range(stretches + 1)
    kinds = [(a, b, m) for a in halts for b in halts if a != b for m in readies]
    for trains in product(kinds, repeat=count):
        yield list(trains)


def small_cases():
    """Lines of one and two stretches with one to three trains, and all orders for them."""
    for runs, gap in (([1], 0), ([2], 1), ([1, 2], 0), ([3, 1], 2)):
        line = Line(runs, gap)
        for count in (1, 2):
            for trains in small_trains(len(runs), (0, 3), count):
                for orders in all_orders(line, trains):
                    yield line, trains, orders
    line = Line([2, 1], 1)
    ends = ((0, 2, 0), (2, 0, 1), (0, 1, 2), (2, 1, 0))
    for trains in product(ends, repeat=3):
        for orders in all_orders(line, trains):
            yield line, list(trains), orders


def drawn_cases(seed, count):
    """Lines and trains of all sizes, each with orders that may stick and with some that don't."""
    draw = Draw(seed)
    for _ in range(count):
        line, trains = drawn_case(draw)
        yield line, trains, drawn_orders(draw, line, trains)
        yield line, trains, moving_orders(draw, line, trains)


# Two trains against each other; each is let on first where the other one has to come from.
STUCK = (Line([4, 6], 1), [(0, 2, 0), (2, 0, 3)], [[1, 0], [0, 1]])

# Wrong lists of trains for a line of two stretches.
BAD_TRAINS = (
    [], [(0, 1, 0)] * 6, [(0, 0, 0)], [(2, 2, 0)], [(-1, 1, 0)], [(1, -1, 0)], [(3, 1, 0)], [(1, 3, 0)],
    [(0, 2, -1)], [(0, 2, 61)], [(0, 2, 0), (1, 1, 0)], [(0, 2, 61), (0, 2, 0)], [(0, 2, 0), (0, 2, 0), (0, 3, 0)],
)

"""Tables that are handed in: whether they keep the line, their orders and their last arrival."""

from haltline.errors import BadTable
from haltline.line import ways


def keeps(line, trains, table):
    paths = ways(line, trains)
    if not is_whole(paths, table):
        return False
    return all_in_time(line, trains, paths, table) and all_apart(line, paths, table)


def orders_of(line, trains, table):
    check_table(line, trains, table)
    paths = ways(line, trains)
    return [order_on(paths, table, stretch) for stretch in range(len(line.runs()))]


def last_arrival(line, trains, table):
    check_table(line, trains, table)
    runs = line.runs()
    # Each train leaves the last stretch of its way last.
    return max([row[-1] + runs[path[-1]] for path, row in zip(ways(line, trains), table)])


def check_table(line, trains, table):
    if not keeps(line, trains, table):
        raise BadTable("the table does not keep the line")


def is_whole(paths, table):
    return [len(row) for row in table] == [len(path) for path in paths]


def all_in_time(line, trains, paths, table):
    runs = line.runs()
    for train, path in enumerate(paths):
        soonest = trains[train][2]
        for stretch, minute in zip(path, table[train]):
            if minute < soonest:
                return False
            soonest = minute + runs[stretch]
    return True


def all_apart(line, paths, table):
    gap = line.clear()
    for stretch, run in enumerate(line.runs()):
        entries = entries_on(paths, table, stretch)
        # Only neighbours: trains further from one another are still further apart.
        for ahead, behind in zip(entries, entries[1:]):
            if behind[0] < ahead[0] + run + gap:
                return False
    return True


def order_on(paths, table, stretch):
    return [entry[1] for entry in entries_on(paths, table, stretch)]


def entries_on(paths, table, stretch):
    # Pairs (minute, train), the soonest first. A plan that is being made has rows that end sooner than the ways.
    entries = []
    for train, path in enumerate(paths):
        for entered, minute in zip(path, table[train]):
            if entered == stretch:
                entries.append((minute, train))
    return sorted(entries)

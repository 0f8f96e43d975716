"""Plans: tables for trains that nobody has given orders.

A plan that is being made is a table whose rows end where the trains stand.
An entry is a pair (minute, train): that train's row goes on with that minute.
"""

from haltline.errors import TooMany
from haltline.line import ways
from haltline.tables import entries_on, is_whole, last_arrival, orders_of

MOST_FOR_BEST = 3


def first_come(line, trains):
    paths = ways(line, trains)
    plan = [[] for path in paths]
    entries = next_entries(line, trains, paths, plan)
    while entries:
        # Of pairs with the same minute the least is the one with the least place.
        first = min(entries)
        plan[first[1]].append(first[0])
        entries = next_entries(line, trains, paths, plan)
    return plan


def best(line, trains):
    paths = ways(line, trains)
    if len(trains) > MOST_FOR_BEST:
        raise TooMany(f"the best is told of at most {MOST_FOR_BEST} trains")
    table = first_come(line, trains)
    arrival = last_arrival(line, trains, table)
    plans = [[[] for path in paths]]
    while plans:
        plan = plans.pop()
        hoped = hoped_arrival(line, trains, paths, plan)
        if hoped >= arrival:
            continue
        if is_whole(paths, plan):
            table = plan
            arrival = hoped
        else:
            plans.extend(longer_plans(line, trains, paths, plan))
    return (arrival, orders_of(line, trains, table))


def longer_plans(line, trains, paths, plan):
    # With its entries put in from the least to the greatest each least table is made, and none is made twice.
    last = max([(row[-1], train) for train, row in enumerate(plan) if row], default=(-1, -1))
    entries = [entry for entry in next_entries(line, trains, paths, plan) if entry > last]
    # The last one of the list is tried first: the soonest, so that good tables come early.
    return [with_entry(plan, entry) for entry in sorted(entries, reverse=True)]


def with_entry(plan, entry):
    longer = [list(row) for row in plan]
    longer[entry[1]].append(entry[0])
    return longer


def next_entries(line, trains, paths, plan):
    going = [train for train, path in enumerate(paths) if len(plan[train]) < len(path)]
    return [(soonest_enter(line, trains, paths, plan, train), train) for train in going]


def soonest_enter(line, trains, paths, plan, train):
    stretch = paths[train][len(plan[train])]
    apart = line.runs()[stretch] + line.clear()
    minutes = [entry[0] + apart for entry in entries_on(paths, plan, stretch)]
    return max([minute_there(line, trains, paths, plan, train)] + minutes)


def minute_there(line, trains, paths, plan, train):
    row = plan[train]
    if not row:
        return trains[train][2]
    return row[-1] + line.runs()[paths[train][len(row) - 1]]


def hoped_arrival(line, trains, paths, plan):
    # No table that the plan is the beginning of has an earlier last arrival.
    return max([hoped_end(line, trains, paths, plan, train) for train in range(len(paths))])


def hoped_end(line, trains, paths, plan, train):
    runs = line.runs()
    ahead = paths[train][len(plan[train]):]
    if not ahead:
        return minute_there(line, trains, paths, plan, train)
    return soonest_enter(line, trains, paths, plan, train) + sum([runs[stretch] for stretch in ahead])

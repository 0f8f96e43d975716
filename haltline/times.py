"""Least tables, chains and latest tables for given orders."""

from haltline.errors import Sticks, TooSoon
from haltline.line import ways
from haltline.waits import in_turn, ring_of, waits_of


def least_table(line, trains, orders):
    paths = ways(line, trains)
    waits = waits_of(line, paths, orders)
    turn = in_turn(waits)
    if len(turn) < len(waits):
        return ("ring", ring_of(waits, turn))
    return ("table", table_of(paths, least_enters(trains, waits, turn)))


def chain(line, trains, orders):
    waits = waits_of(line, ways(line, trains), orders)
    enters = least_enters(trains, waits, whole_turn(waits))
    leaves = leaves_of(line, enters)
    arrival = max(leaves.values())
    visit = [each for each in leaves if leaves[each] == arrival][0]
    links = [visit]
    tight = tight_waits(waits, enters, visit)
    # A visit that no wait holds up is held up by the ready minute of its train alone.
    while tight:
        visit = tight[0]
        links.append(visit)
        tight = tight_waits(waits, enters, visit)
    return list(reversed(links))


def latest(line, trains, orders, limit):
    paths = ways(line, trains)
    waits = waits_of(line, paths, orders)
    turn = whole_turn(waits)
    leaves = leaves_of(line, least_enters(trains, waits, turn))
    arrival = max(leaves.values())
    if limit < arrival:
        raise TooSoon(f"the last arrival is {arrival} at the soonest, behind {limit}")
    return table_of(paths, latest_enters(line, waits, turn, limit))


def whole_turn(waits):
    turn = in_turn(waits)
    if len(turn) < len(waits):
        raise Sticks("the orders stick")
    return turn


def least_enters(trains, waits, turn):
    enters = {}
    for visit in turn:
        # The ready minute binds the first visit alone, but the later ones lie behind it anyway.
        ready = trains[visit[0]][2]
        enters[visit] = max([ready] + [enters[wait[0]] + wait[1] for wait in waits[visit]])
    return enters


def latest_enters(line, waits, turn, limit):
    runs = line.runs()
    enters = {}
    for visit in turn:
        enters[visit] = limit - runs[visit[1]]
    # From the last turn to the first: by its own turn a visit has heard from all that wait for it.
    for visit in reversed(turn):
        for wait in waits[visit]:
            enters[wait[0]] = min(enters[wait[0]], enters[visit] - wait[1])
    return enters


def tight_waits(waits, enters, visit):
    return [wait[0] for wait in waits[visit] if enters[wait[0]] + wait[1] == enters[visit]]


def leaves_of(line, enters):
    runs = line.runs()
    leaves = {}
    for visit in enters:
        leaves[visit] = enters[visit] + runs[visit[1]]
    return leaves


def table_of(paths, enters):
    return [row_of(train, path, enters) for train, path in enumerate(paths)]


def row_of(train, path, enters):
    return [enters[(train, stretch)] for stretch in path]

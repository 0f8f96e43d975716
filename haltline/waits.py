"""Which visit waits for which, and for how many minutes.

The waits of orders are a dict: for each visit the list of the pairs (visit
waited for, minutes from its entering to the soonest entering of this one).
"""

from haltline.errors import BadOrders


def waits_of(line, paths, orders):
    runs = line.runs()
    gap = line.clear()
    check_orders(len(runs), paths, orders)
    waits = {}
    for train, path in enumerate(paths):
        for stretch in path:
            waits[(train, stretch)] = []
        for ahead, behind in zip(path, path[1:]):
            waits[(train, behind)].append(((train, ahead), runs[ahead]))
    # Only neighbours in an order: the waits for trains further ahead follow from theirs.
    for stretch, order in enumerate(orders):
        for ahead, behind in zip(order, order[1:]):
            waits[(behind, stretch)].append(((ahead, stretch), runs[stretch] + gap))
    return waits


def check_orders(stretches, paths, orders):
    if len(orders) != stretches:
        raise BadOrders(f"orders tell a list for each of {stretches} stretches")
    for stretch, order in enumerate(orders):
        going = [train for train, path in enumerate(paths) if stretch in path]
        if sorted(order) != going:
            raise BadOrders(f"by stretch {stretch} go the trains {going}, each once")


def in_turn(waits):
    # Each visit comes behind all that it waits for; one that waits on a ring never comes.
    turn = []
    free = freed(waits, turn)
    while free:
        turn.extend(free)
        free = freed(waits, turn)
    return turn


def freed(waits, turn):
    return [visit for visit in waits if visit not in turn and not held_by(waits, turn, visit)]


def held_by(waits, turn, visit):
    return [wait[0] for wait in waits[visit] if wait[0] not in turn]


def ring_of(waits, turn):
    # Whoever has no turn is held by another without one, so the walk must come round.
    visit = [stuck for stuck in waits if stuck not in turn][0]
    walked = []
    while visit not in walked:
        walked.append(visit)
        visit = held_by(waits, turn, visit)[0]
    # The walk may have begun outside the ring.
    return walked[walked.index(visit):]

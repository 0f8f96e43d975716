"""Lines, and the ways of trains along them."""

from haltline.errors import BadLine, BadTrains

MOST_STRETCHES = 5
MOST_RUN = 20
MOST_CLEAR = 5
MOST_TRAINS = 5
MOST_READY = 60


class Line:
    def __init__(self, runs, clear):
        check_line(runs, clear)
        # A tuple of our own: the list that was handed in may change later.
        self.minutes = tuple(runs)
        self.gap = clear

    def runs(self):
        return list(self.minutes)

    def clear(self):
        return self.gap


def check_line(runs, clear):
    if not 1 <= len(runs) <= MOST_STRETCHES:
        raise BadLine(f"a line has 1 to {MOST_STRETCHES} stretches")
    for run in runs:
        if not 1 <= run <= MOST_RUN:
            raise BadLine(f"a run of {run} is not from 1 to {MOST_RUN}")
    if not 0 <= clear <= MOST_CLEAR:
        raise BadLine(f"a gap of {clear} is not from 0 to {MOST_CLEAR}")


def way(line, train):
    check_train(line, train)
    start = train[0]
    end = train[1]
    if start < end:
        return list(range(start, end))
    # Stretch k lies above halt k, so a train down the line begins one below its halt.
    return list(range(start - 1, end - 1, -1))


def check_train(line, train):
    if len(train) != 3:
        raise BadTrains("a train is two halts and a minute")
    last_halt = len(line.runs())
    for halt in train[:2]:
        if not 0 <= halt <= last_halt:
            raise BadTrains(f"there is no halt {halt}")
    if train[0] == train[1]:
        raise BadTrains("a train goes between two unlike halts")
    ready = train[2]
    if not 0 <= ready <= MOST_READY:
        raise BadTrains(f"a ready minute of {ready} is not from 0 to {MOST_READY}")


def ways(line, trains):
    if not 1 <= len(trains) <= MOST_TRAINS:
        raise BadTrains(f"there are 1 to {MOST_TRAINS} trains")
    return [way(line, train) for train in trains]

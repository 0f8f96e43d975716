"""Lines as texts: written and read."""

from haltline.errors import BadText
from haltline.line import MOST_CLEAR, MOST_RUN, MOST_STRETCHES, Line

BETWEEN_RUNS = "-"
AHEAD_OF_GAP = " clear "


def written(line):
    runs = BETWEEN_RUNS.join([str(run) for run in line.runs()])
    gap = line.clear()
    return f"{runs}{AHEAD_OF_GAP}{gap}"


def read(text):
    parts = text.split(AHEAD_OF_GAP)
    if len(parts) != 2:
        raise BadText("a line is written as its runs, the word clear and one gap")
    runs = parts[0].split(BETWEEN_RUNS)
    if len(runs) > MOST_STRETCHES:
        raise BadText(f"a line has at most {MOST_STRETCHES} runs")
    minutes = [number_of(run, 1, MOST_RUN) for run in runs]
    return Line(minutes, number_of(parts[1], 0, MOST_CLEAR))


def number_of(figures, least, most):
    # Held against each number as it is written: so no other way of writing one is taken.
    for number in range(least, most + 1):
        if figures == str(number):
            return number
    raise BadText(f"{figures!r} is not a number from {least} to {most}")

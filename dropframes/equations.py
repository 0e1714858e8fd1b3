"""Equations over integers, solved without a rest, and fractions in lowest terms."""

from math import gcd


def lowest(top, bottom):
    """Return a fraction in lowest terms, as a pair of its top and its bottom, which is above 0."""
    shared = gcd(top, bottom)
    return top // shared, bottom // shared


def solved(lines):
    """Return (tops, bottom): for each unknown its tops, one for each right side, and the bottom of them all.

    There is a line for each unknown: the factors of all unknowns in it, and behind them the right sides. No unknown
    may drop out of its own line when those ahead of it are put in: so it is if no factor but that of the line's own
    unknown is above 0, and the unknowns are means or chances that have an end.
    """
    many = len(lines)
    found = [shortened(line) for line in lines]
    last = 1
    for at in range(many):
        pivot = found[at]
        found = [line if number == at else cleared(line, pivot, at, last) for number, line in enumerate(found)]
        last = pivot[at]
    return [line[many:] for line in found], last


def shortened(line):
    """Return a line divided by what divides all of it, so that its numbers stay short."""
    shared = 0
    for number in line:
        shared = gcd(shared, number)
    return [number // shared for number in line]


def cleared(line, pivot, at, last):
    """Return a line out of which the pivot line has taken its unknown.

    All numbers are determinants of the first lines, so the factor of the pivot line before divides them.
    """
    return [(pivot[at] * number - line[at] * taken) // last for number, taken in zip(line, pivot)]

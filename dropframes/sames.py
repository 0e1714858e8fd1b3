"""Reels that can show the same films, and reels with alike states folded into one."""

from dropframes.checks import check_reel, check_two
from dropframes.films import ahead_of_all, states_at_next
from dropframes.reels import leaps


def covers(one, other, gap):
    """Tell whether the first reel can show each film that the second one can."""
    check_two(one, other, gap)
    return all([len(states) > 0 or len(twins) == 0 for states, twins in first_films(one, other, gap)])


def are_same(one, other, gap):
    """Tell whether two reels can show the same films."""
    return parting_film(one, other, gap) is None


def parting_film(one, other, gap):
    """Return the first of the shortest films that just one of two reels can show, None without any."""
    check_two(one, other, gap)
    found = first_films(one, other, gap)
    for states, twins in found:
        if (len(states) == 0) != (len(twins) == 0):
            return found[states, twins]
    return None


def least_gap_alike(one, other):
    """Return the least gap by which two reels can show the same films, None if by no gap at all."""
    check_reel(one)
    check_reel(other)
    if not are_same(one, other, None):
        return None
    gap = 0
    # A reel has so few states that some gap lets by all that the gap None does, so this comes to an end.
    while not are_same(one, other, gap):
        gap += 1
    return gap


def folded(reel):
    """Return the reel with one state for each lot of alike states."""
    check_reel(reel)
    nexts, pictures = reel
    lots = alike_lots(reel)
    rows = [[] for _ in range(1 + max(lots.values()))]
    shown = [0 for _ in rows]
    for state in lots:
        rows[lots[state]].extend([lots[after] for after in nexts[state]])
        shown[lots[state]] = pictures[state]
    return tuple([tuple(sorted(set(row))) for row in rows]), tuple(shown)


def first_films(one, other, gap):
    """Return for each two lots of states, at which both reels may be behind a film, the first such film.

    The films stand in their sequence: the shorter ones ahead, those of one length by their pictures. A lot is a
    tuple, empty if the reel cannot show the film; behind a film that just one of both can show no other one is asked.
    """
    rows, other_rows = leaps(one, gap), leaps(other, gap)
    pictures = sorted(set(one[1] + other[1]))
    found = {}
    waiting = [((), tuple(ahead_of_all(one)), tuple(ahead_of_all(other)))]
    at = 0
    while at < len(waiting):
        film, states, twins = waiting[at]
        at += 1
        if (states, twins) in found:
            continue
        found[states, twins] = film
        if len(states) > 0 and len(twins) > 0:
            for picture in pictures:
                after = tuple(states_at_next(one, rows, states, picture))
                twins_after = tuple(states_at_next(other, other_rows, twins, picture))
                waiting.append((film + (picture,), after, twins_after))
    return found


def alike_lots(reel):
    """Return for each state that some run comes to the number of its lot, these in the order of their least states."""
    nexts, pictures = reel
    lots = {}
    finer = numbered({state: (pictures[state],) for state in leaps(reel, None)[-1]})
    # Lots are parted as long as some states of one lot go on to unlike lots: parting no more, they are the widest.
    while finer != lots:
        lots = finer
        finer = numbered({
            state: (lots[state], tuple(sorted({lots[after] for after in nexts[state]}))) for state in lots})
    return lots


def numbered(marks):
    """Return for each state a number, the same one for the same mark, from 0 on as the marks first come."""
    order = {}
    found = {}
    for state in marks:
        if marks[state] not in order:
            order[marks[state]] = len(order)
        found[state] = order[marks[state]]
    return found

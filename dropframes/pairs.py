"""Pairs of states of two reels: whether it surely comes out which of the two reels shows a film."""

from dropframes.checks import MOST_GAP, check_gap, check_reel, check_reels, check_two, is_film
from dropframes.films import ahead_of_all, can_show, states_behind
from dropframes.reels import leaps


def comes_out(one, other, gap):
    """Tell whether no endless row of pictures has only open beginnings."""
    return longest_open(one, other, gap) is not None


def longest_open(one, other, gap):
    """Return the greatest number of frames of an open film, None if it does not surely come out."""
    check_two(one, other, gap)
    found = ranked(pairs_behind(one, other, gap))
    start = start_pair(one, other)
    return found[start] - 1 if start in found else None


def open_film(one, other, gap):
    """Return an open film of as many frames as can be, None if it does not surely come out."""
    check_two(one, other, gap)
    graph = pairs_behind(one, other, gap)
    found = ranked(graph)
    pair = start_pair(one, other)
    if pair not in found:
        return None
    film = []
    while found[pair] > 1:
        pair = [after for after in graph[pair] if found[after] == found[pair] - 1][0]
        film.append(one[1][pair[0]])
    return tuple(film)


def shows_open_film(one, other, gap, value):
    """Tell whether a value is what open_film may return."""
    longest = longest_open(one, other, gap)
    if longest is None:
        return value is None
    if not is_film(value) or len(value) != longest:
        return False
    return can_show(one, gap, value) and can_show(other, gap, value)


def ranks(one, other, gap):
    """Return the ascending triples (state, other state, rank), None if it does not surely come out."""
    check_two(one, other, gap)
    found = ranked(pairs_behind(one, other, gap))
    start = start_pair(one, other)
    if start not in found:
        return None
    return tuple(sorted([(pair[0], pair[1], found[pair]) for pair in found if pair != start]))


def endless_film(one, other, gap):
    """Return (film, again), open however often again stands behind the film, None if it surely comes out."""
    check_two(one, other, gap)
    graph = pairs_behind(one, other, gap)
    found = ranked(graph)
    pair = start_pair(one, other)
    if pair in found:
        return None
    film = []
    frames_at = {}
    # Behind a pair without a rank there always comes another one, so at last one comes again.
    while pair not in frames_at:
        frames_at[pair] = len(film)
        pair = [after for after in graph[pair] if after not in found][0]
        film.append(one[1][pair[0]])
    many = frames_at[pair]
    return tuple(film[:many]), tuple(film[many:])


def shows_endless_film(one, other, gap, value):
    """Tell whether a value is what endless_film may return."""
    if comes_out(one, other, gap):
        return value is None
    if not isinstance(value, tuple) or len(value) != 2:
        return False
    film, again = value
    if not is_film(film) or not is_film(again) or len(again) == 0:
        return False
    return goes_on(one, gap, film, again) and goes_on(other, gap, film, again)


def least_gap(one, other):
    """Return the least gap by which it does not surely come out, None if it does by every gap."""
    check_reel(one)
    check_reel(other)
    # A reel has so few states that the greatest gap lets by all that the gap None does.
    for gap in range(MOST_GAP + 1):
        if not comes_out(one, other, gap):
            return gap
    return None


def all_come_out(reels, gap):
    """Tell whether it surely comes out for each two of the reels."""
    return most_open(reels, gap) is not None


def most_open(reels, gap):
    """Return the greatest number of frames of a film that two of the reels can show, None without an end."""
    check_reels(reels)
    check_gap(gap)
    most = 0
    for number, other in enumerate(reels):
        for one in reels[:number]:
            longest = longest_open(one, other, gap)
            if longest is None:
                return None
            most = max(most, longest)
    return most


def start_pair(one, other):
    """Return what stands for the place ahead of all frames: behind it come the first pairs."""
    return len(one[0]), len(other[0])


def pairs_behind(one, other, gap):
    """Return for each pair that can be come to, and for start_pair, the list of the pairs behind it."""
    rows = leaps(one, gap)
    other_rows = leaps(other, gap)
    graph = {}
    waiting = [start_pair(one, other)]
    while len(waiting) > 0:
        pair = waiting.pop()
        if pair not in graph:
            graph[pair] = matches(one, other, rows[pair[0]], other_rows[pair[1]])
            waiting.extend(graph[pair])
    return graph


def matches(one, other, states, other_states):
    """Return the pairs of one picture among these states of the two reels."""
    return [(state, twin) for state in states for twin in other_states if one[1][state] == other[1][twin]]


def ranked(graph):
    """Return the ranks of the pairs from which no round of pairs can be come to."""
    found = {}
    grown = True
    while grown:
        grown = False
        for pair in graph:
            if pair not in found and all([after in found for after in graph[pair]]):
                found[pair] = 1 + max([found[after] for after in graph[pair]], default=0)
                grown = True
    return found


def goes_on(reel, gap, film, again):
    """Tell whether a reel can show a film and again behind it, however often."""
    rows = leaps(reel, gap)
    states = states_behind(reel, rows, ahead_of_all(reel), film)
    met = []
    # What comes behind the film again depends on these states alone: once met before, they go on for ever.
    while len(states) > 0 and states not in met:
        met.append(states)
        states = states_behind(reel, rows, states, again)
    return len(states) > 0

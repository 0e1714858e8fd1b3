"""How many films of so many frames reels can show, and the pictures of those that two of them can."""

from dropframes.checks import check_gap, check_many, check_reel, check_two
from dropframes.films import ahead_of_all, states_at_next
from dropframes.pairs import pairs_behind, start_pair
from dropframes.reels import leaps

MOST_COUNTED = 100


def count_films(reel, gap, many):
    """Return how many films of so many frames a reel can show."""
    check_reel(reel)
    check_gap(gap)
    check_many(many, MOST_COUNTED)
    return films_of_all((reel,), gap, many)


def count_open(one, other, gap, many):
    """Return how many films of so many frames both reels can show."""
    check_two(one, other, gap)
    check_many(many, MOST_COUNTED)
    return films_of_all((one, other), gap, many)


def kept_pictures(one, other, gap):
    """Return the ascending tuple of the pictures that stand in some film that both reels can show."""
    check_two(one, other, gap)
    start = start_pair(one, other)
    return tuple(sorted({one[1][pair[0]] for pair in pairs_behind(one, other, gap) if pair != start}))


def films_of_all(reels, gap, many):
    """Return how many films of so many frames all of the reels can show."""
    graph = lots_behind(reels, gap)
    films = {lots: 1 for lots in graph}
    # Unlike films may lead to the same lots, but one film leads to one row of lots: so none is counted twice.
    for _ in range(many):
        films = {lots: sum([films[after] for after in graph[lots]]) for lots in graph}
    return films[first_lots(reels)]


def first_lots(reels):
    """Return where the reels are ahead of all frames, a lot of states for each one."""
    return tuple([tuple(ahead_of_all(reel)) for reel in reels])


def lots_behind(reels, gap):
    """Return for the lots of states behind each film that all of the reels can show those behind one frame more.

    There is a list of these, one for each picture that all of the reels can show next.
    """
    rows = [leaps(reel, gap) for reel in reels]
    pictures = sorted(set(reels[0][1]))
    graph = {}
    waiting = [first_lots(reels)]
    while len(waiting) > 0:
        lots = waiting.pop()
        if lots not in graph:
            found = [lots_at_next(reels, rows, lots, picture) for picture in pictures]
            graph[lots] = [after for after in found if () not in after]
            waiting.extend(graph[lots])
    return graph


def lots_at_next(reels, rows, lots, picture):
    """Return for each reel the states at which a next frame of this picture may be, behind those of its lot."""
    return tuple([
        tuple(states_at_next(reel, leap, states, picture)) for reel, leap, states in zip(reels, rows, lots)])

"""Films by chance: how soon the frames of a reel tell it from another one, any frames being left out."""

from dropframes.checks import check_chance, check_many, check_reel
from dropframes.equations import lowest, solved
from dropframes.errors import TooMany
from dropframes.films import ahead_of_all, states_at_next
from dropframes.reels import leaps

MOST_TOLD = 30
MOST_PAIRS = 24


def chance_told(one, other, chance, many):
    """Return the chance that the first so many frames of the first reel have told it from the second one."""
    check_reel(one)
    check_reel(other)
    check_chance(chance)
    check_many(many, MOST_TOLD)
    tops, bottom = next_frames(one, chance)
    untold, whole = untold_later(untold_pairs(one, other, tops), tops, bottom, many)
    return lowest(whole - untold[first_pair(one, other)], whole)


def mean_told(one, other, chance):
    """Return the mean number of frames until they have told the first reel, None if it is without end."""
    check_reel(one)
    check_reel(other)
    check_chance(chance)
    tops, bottom = next_frames(one, chance)
    graph = untold_pairs(one, other, tops)
    if len(graph) - 1 > MOST_PAIRS:
        raise TooMany(MOST_PAIRS)
    # What frames can tell at all, as many frames as there are pairs can: no way to it passes a pair twice.
    untold, whole = untold_later(graph, tops, bottom, len(graph))
    if max(untold.values()) == whole:
        return None
    means, whole = solved(mean_lines(graph, tops, bottom))
    return lowest(means[list(graph).index(first_pair(one, other))][0], whole)


def next_frames(reel, chance):
    """Return (tops, bottom): for each state the chances that the next frame behind one at it is at each state.

    One row stands behind those of the states: the chances of the first frame.
    """
    top, bottom = chance
    rows = reel[0] + ((0,),)
    lines = []
    for state, row in enumerate(rows):
        # A state that comes next is shown itself, or left out: then it is as behind a frame at it.
        own = [bottom * len(row) if after == state else 0 for after in range(len(rows))]
        left_out = [bottom - top if after in row else 0 for after in range(len(rows))]
        shown = [top if after in row else 0 for after in range(len(reel[0]))]
        lines.append([factor - taken for factor, taken in zip(own, left_out)] + shown)
    return solved(lines)


def first_pair(one, other):
    """Return what stands for the place ahead of all frames, as if it were a pair."""
    return len(one[0]), tuple(ahead_of_all(other))


def untold_pairs(one, other, tops):
    """Return for each pair behind frames that have not told the first reel, and for first_pair, those behind it.

    A pair is of the state of the first reel at the last frame and of the states at which the second one may be then.
    """
    rows = leaps(other, None)
    graph = {}
    waiting = [first_pair(one, other)]
    while len(waiting) > 0:
        pair = waiting.pop()
        if pair not in graph:
            comes = [state for state, top in enumerate(tops[pair[0]]) if top > 0]
            found = [(state, tuple(states_at_next(other, rows, pair[1], one[1][state]))) for state in comes]
            graph[pair] = [after for after in found if after[1] != ()]
            waiting.extend(graph[pair])
    return graph


def untold_later(graph, tops, bottom, many):
    """Return (untold, whole): for each pair the chance, out of the whole, that many more frames do not tell."""
    untold = {pair: 1 for pair in graph}
    whole = 1
    for _ in range(many):
        untold = {
            pair: sum([tops[pair[0]][after[0]] * untold[after] for after in graph[pair]]) for pair in graph}
        whole = whole * bottom
    return untold, whole


def mean_lines(graph, tops, bottom):
    """Return the equations of the means: that of a pair is 1 and, by their chances, those of the pairs behind it."""
    lines = []
    for pair in graph:
        chances = {after: tops[pair[0]][after[0]] for after in graph[pair]}
        own = [bottom if twin == pair else 0 for twin in graph]
        lines.append([factor - chances.get(twin, 0) for factor, twin in zip(own, graph)] + [bottom])
    return lines

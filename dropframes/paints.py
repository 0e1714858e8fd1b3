"""Places painted anew: by how few of them it surely comes out which of two reels shows a film."""

from itertools import combinations

from dropframes.checks import LAST_PICTURE, check_lot, check_reel, check_two
from dropframes.pairs import pairs_behind, ranked, start_pair


def repaints(one, other, gap):
    """Return the ascending tuple of the lots of as few places as can be with which it surely comes out."""
    check_two(one, other, gap)
    graph = endless_pairs(one, other, gap)
    start = start_pair(one, other)
    many = 0
    lots = lots_that_settle(graph, start, many)
    # The places of all pairs are a lot that does, so this comes to an end.
    while len(lots) == 0:
        many += 1
        lots = lots_that_settle(graph, start, many)
    return tuple(lots)


def fewest_repaints(one, other, gap):
    """Return of how few places a lot can be with which it surely comes out."""
    return len(repaints(one, other, gap)[0])


def repainted(one, other, lot):
    """Return the pair of the reels, each place of the lot with a picture that no state bears or bore."""
    check_reel(one)
    check_reel(other)
    check_lot(lot, one, other)
    fresh = [picture for picture in range(LAST_PICTURE + 1) if picture not in one[1] + other[1]]
    pictures = [list(one[1]), list(other[1])]
    for (reel, state), picture in zip(lot, fresh):
        pictures[reel][state] = picture
    return (one[0], tuple(pictures[0])), (other[0], tuple(pictures[1]))


def endless_pairs(one, other, gap):
    """Return for each pair, and for start_pair, from which a round of pairs can be come to such pairs behind it."""
    graph = pairs_behind(one, other, gap)
    found = ranked(graph)
    return {pair: [after for after in graph[pair] if after not in found] for pair in graph if pair not in found}


def lots_that_settle(graph, start, many):
    """Return the ascending list of the lots of so many places without which no round of pairs can be come to."""
    # A place that stands in none of these pairs bars no way to a round: a lot with it could do without it.
    pairs = [pair for pair in graph if pair != start]
    places = sorted(set([(0, pair[0]) for pair in pairs] + [(1, pair[1]) for pair in pairs]))
    return [lot for lot in combinations(places, many) if not has_round(graph, start, lot)]


def has_round(graph, start, lot):
    """Tell whether a round of pairs can be come to without the places of a lot.

    A picture painted anew is that of one state alone, so it leaves no pair of this state.
    """
    left = [pair for pair in graph if (0, pair[0]) not in lot and (1, pair[1]) not in lot]
    kept = {}
    # Again and again those pairs go behind which none is left: what stays, goes on for ever.
    while len(left) != len(kept):
        kept = {pair: True for pair in left}
        left = [pair for pair in left if leads_on(graph[pair], kept)]
    return start in kept


def leads_on(pairs, kept):
    """Tell whether one of the pairs is kept."""
    for pair in pairs:
        if pair in kept:
            return True
    return False

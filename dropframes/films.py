"""Films: which reels can show them, and at which states they may be then."""

from dropframes.checks import check_film, check_gap, check_reel, check_reels
from dropframes.reels import leaps


def can_show(reel, gap, film):
    """Tell whether a reel can show a film."""
    check_reel(reel)
    check_gap(gap)
    check_film(film)
    return frames_shown(reel, gap, film) == len(film)


def behind(reel, gap, film):
    """Return the ascending tuple of the states at which a reel may be at the last frame of a film.

    For the film of no frames these are the states at which the first frame may be.
    """
    check_reel(reel)
    check_gap(gap)
    check_film(film)
    rows = leaps(reel, gap)
    if len(film) == 0:
        return tuple(rows[-1])
    return tuple(states_behind(reel, rows, ahead_of_all(reel), film))


def could_be(reels, gap, film):
    """Return the ascending tuple of the numbers of the reels that can show a film."""
    check_reels(reels)
    check_gap(gap)
    check_film(film)
    return tuple([number for number, reel in enumerate(reels) if frames_shown(reel, gap, film) == len(film)])


def told_at(reels, gap, film):
    """Return the least number of first frames that at most one reel can show, None if more can show it all."""
    check_reels(reels)
    check_gap(gap)
    check_film(film)
    # A reel can show each beginning of what it can show, so the second best of them tells.
    second = sorted([frames_shown(reel, gap, film) for reel in reels])[-2]
    return None if second == len(film) else second + 1


def frames_shown(reel, gap, film):
    """Return how many first frames of a film a reel can show."""
    rows = leaps(reel, gap)
    states = ahead_of_all(reel)
    for many, picture in enumerate(film):
        states = states_at_next(reel, rows, states, picture)
        if len(states) == 0:
            return many
    return len(film)


def ahead_of_all(reel):
    """Return where a reel is ahead of its first frame, as states_at_next takes it: at the last row of its leaps."""
    return [len(reel[0])]


def states_behind(reel, rows, states, film):
    """Return the ascending list of the states at the last frame, a film being shown behind a frame at these."""
    found = states
    for picture in film:
        found = states_at_next(reel, rows, found, picture)
    return found


def states_at_next(reel, rows, states, picture):
    """Return the ascending list of the states at which a next frame of this picture may be.

    The last frame was at one of the states, and the rows are the reel's leaps by the gap.
    """
    pictures = reel[1]
    return sorted({after for state in states for after in rows[state] if pictures[after] == picture})

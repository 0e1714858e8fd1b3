"""Reels: which states a run comes to, and which of them recur."""

from dropframes.checks import check_reel


def recurring_states(reel):
    """Return the ascending tuple of the states that recur."""
    check_reel(reel)
    later = leaps(reel, None)
    return tuple([state for state in later[-1] if state in later[state]])


def recurring_pictures(reel):
    """Return the ascending tuple of the pictures of the states that recur."""
    recurring = recurring_states(reel)
    return tuple(sorted({reel[1][state] for state in recurring}))


def passing(reel):
    """Return the most states on one run that do not recur."""
    check_reel(reel)
    later = leaps(reel, None)
    fleeting = [state for state in later[-1] if state not in later[state]]
    longest = {}
    # Of two such states on one run the later one has fewer states behind it, so it comes first here.
    for state in sorted(fleeting, key=lambda passed: len(later[passed])):
        longest[state] = 1 + max([longest[after] for after in later[state] if after in longest], default=0)
    return max(longest.values(), default=0)


def leaps(reel, gap):
    """Return for each state the ascending list of those at which the next frame may be, behind a frame at it.

    One row stands behind those of the states: where the first frame may be.
    """
    nexts = reel[0]
    rows = [states_within(nexts, row, gap) for row in nexts]
    return rows + [states_within(nexts, [0], gap)]


def states_within(nexts, states, gap):
    """Return the ascending list of the states that a run is at, at most so many steps behind one of these."""
    # No way to a state needs to pass a state twice: as many steps as states tell all that any number does.
    steps = len(nexts) if gap is None else gap
    found = sorted(states)
    for _ in range(steps):
        found = sorted(set(found + [after for state in found for after in nexts[state]]))
    return found

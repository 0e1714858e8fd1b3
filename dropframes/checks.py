"""What the arguments of the package's functions must be, and the errors for what they must not."""

from dropframes.errors import (
    BadChance, BadFilm, BadGap, BadNumber, BadPicture, BadReel, BadReels, BadStep, BadView)

MOST_STATES = 6
FEWEST_REELS = 2
MOST_REELS = 6
MOST_GAP = 20
MOST_FRAMES = 1000
LAST_PICTURE = 99
MOST_BOTTOM = 100


def is_integer(value, low, high):
    """Tell whether a value is an integer from low to high."""
    # Python counts True and False among the integers, the package does not.
    return isinstance(value, int) and not isinstance(value, bool) and low <= value <= high


def is_picture(value):
    """Tell whether a value is a picture."""
    return is_integer(value, 0, LAST_PICTURE)


def is_film(value):
    """Tell whether a value is a film of at most 1000 frames."""
    if not isinstance(value, tuple) or len(value) > MOST_FRAMES:
        return False
    return all([is_picture(picture) for picture in value])


def is_ascending(value):
    """Tell whether a tuple of integers, or of tuples of these, is ascending."""
    return list(value) == sorted(set(value))


def is_next_row(value, many):
    """Tell whether a value is an ascending tuple, not empty, of states out of so many."""
    if not isinstance(value, tuple) or len(value) == 0:
        return False
    return all([is_integer(state, 0, many - 1) for state in value]) and is_ascending(value)


def are_nexts(value):
    """Tell whether a value tells for each of 1 to 6 states which may come next."""
    if not isinstance(value, tuple) or not 1 <= len(value) <= MOST_STATES:
        return False
    return all([is_next_row(row, len(value)) for row in value])


def is_place(value, one, other):
    """Tell whether a value is a place of two reels: the number of one of them, and a state of it."""
    if not isinstance(value, tuple) or len(value) != 2 or not is_integer(value[0], 0, 1):
        return False
    nexts = one[0] if value[0] == 0 else other[0]
    return is_integer(value[1], 0, len(nexts) - 1)


def is_lot(value, one, other):
    """Tell whether a value is an ascending tuple of places of two reels."""
    if not isinstance(value, tuple):
        return False
    return all([is_place(place, one, other) for place in value]) and is_ascending(value)


def is_chance(value):
    """Tell whether a value is a chance: a pair (top, bottom), top from 1 to bottom."""
    if not isinstance(value, tuple) or len(value) != 2:
        return False
    top, bottom = value
    return is_integer(bottom, 1, MOST_BOTTOM) and is_integer(top, 1, bottom)


def is_view(value, one, other):
    """Tell whether a value is a view of two reels."""
    # A tuple of pictures is what a film is, and none of a view is longer than a film may be.
    if not isinstance(value, tuple) or not all([is_film(lot) and is_ascending(lot) for lot in value]):
        return False
    shown = sorted([picture for lot in value for picture in lot])
    return is_ascending(value) and shown == sorted(set(one[1] + other[1]))


def wrong_part(value):
    """Return the first of the words "reel", "nexts", "pictures" that names what is wrong, None for a reel."""
    if not isinstance(value, tuple) or len(value) != 2:
        return "reel"
    nexts, pictures = value
    if not are_nexts(nexts):
        return "nexts"
    if not is_film(pictures) or len(pictures) != len(nexts):
        return "pictures"
    return None


def check_reel(reel):
    """Raise BadReel for a value that is no reel."""
    part = wrong_part(reel)
    if part is not None:
        raise BadReel(part)


def check_reels(reels):
    """Raise BadReels for a value that is no tuple of 2 to 6 reels."""
    if not isinstance(reels, tuple) or not FEWEST_REELS <= len(reels) <= MOST_REELS:
        raise BadReels(None)
    for number, reel in enumerate(reels):
        if wrong_part(reel) is not None:
            raise BadReels(number)


def check_gap(gap):
    """Raise BadGap for a value that is no gap."""
    if gap is not None and not is_integer(gap, 0, MOST_GAP):
        raise BadGap("a gap is an integer from 0 to 20, or None")


def check_two(one, other, gap):
    """Raise the error of the first argument that is not two reels and a gap."""
    check_reel(one)
    check_reel(other)
    check_gap(gap)


def check_picture(picture):
    """Raise BadPicture for a value that is no picture."""
    if not is_picture(picture):
        raise BadPicture("a picture is an integer from 0 to 99")


def check_lot(lot, one, other):
    """Raise BadStep for a value that is no lot of places of two reels."""
    if not is_lot(lot, one, other):
        raise BadStep("a lot is an ascending tuple of pairs of the number of a reel, 0 or 1, and a state of it")


def check_film(film):
    """Raise BadFilm for a value that is no film of at most 1000 frames."""
    if not is_film(film):
        raise BadFilm("a film is a tuple of at most 1000 integers from 0 to 99")


def check_many(many, most):
    """Raise BadNumber for a value that is no integer from 0 to the most."""
    if not is_integer(many, 0, most):
        raise BadNumber(f"this is no integer from 0 to {most}")


def check_chance(chance):
    """Raise BadChance for a value that is no chance."""
    if not is_chance(chance):
        raise BadChance("a chance is a pair of integers, the second one from 1 to 100, the first from 1 to the second")


def check_view(view, one, other):
    """Raise BadView for a value that is no view of two reels."""
    if not is_view(view, one, other):
        raise BadView("a view is an ascending tuple of ascending tuples, each picture of the two reels once in them")

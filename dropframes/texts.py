"""Texts that tell reels and films, what such texts tell, and the tale of a film."""

from dropframes.checks import (
    FEWEST_REELS, LAST_PICTURE, MOST_FRAMES, MOST_REELS, MOST_STATES, check_film, check_gap, check_reel, check_reels)
from dropframes.errors import BadLine
from dropframes.films import frames_shown


def reel_text(reel):
    """Return the text of a reel."""
    check_reel(reel)
    nexts, pictures = reel
    return "".join([
        f"state {state} picture {pictures[state]} next {spaced(row)}\n" for state, row in enumerate(nexts)])


def reels_text(reels):
    """Return the text of several reels."""
    check_reels(reels)
    return "".join([f"reel {number}\n{reel_text(reel)}" for number, reel in enumerate(reels)])


def film_text(film):
    """Return the text of a film."""
    check_film(film)
    return spaced(("film",) + film) + "\n"


def read_reel(text):
    """Return the reel that a text tells."""
    lines = told_lines(text)
    reel = told_states(lines, 0)
    many = len(reel[0])
    if many < len(lines):
        raise BadLine(many)
    return reel


def read_reels(text):
    """Return the reels that a text tells."""
    lines = told_lines(text)
    reels = []
    at = 0
    while at < len(lines):
        if len(reels) == MOST_REELS or lines[at] != f"reel {len(reels)}":
            raise BadLine(at)
        reel = told_states(lines, at + 1)
        at += 1 + len(reel[0])
        # Whether another line stands here or none does: it is not the first state of this reel.
        if len(reel[0]) == 0:
            raise BadLine(at)
        reels.append(reel)
    if len(reels) < FEWEST_REELS:
        raise BadLine(len(lines))
    return tuple(reels)


def read_film(text):
    """Return the film that a text tells."""
    lines = told_lines(text)
    words = lines[0].split(" ")
    film = [told_number(word, LAST_PICTURE + 1) for word in words[1:]]
    if words[0] != "film" or len(film) > MOST_FRAMES or None in film:
        raise BadLine(0)
    if len(lines) > 1:
        raise BadLine(1)
    return tuple(film)


def tale(reels, gap, film):
    """Return the text that tells, frame by frame, which reels can have shown a film."""
    check_reels(reels)
    check_gap(gap)
    check_film(film)
    shown = [frames_shown(reel, gap, film) for reel in reels]
    lines = [f"ahead: {numbers_left(shown, 0)}\n"]
    for frame, picture in enumerate(film, start=1):
        lines.append(f"frame {frame} picture {picture}: {numbers_left(shown, frame)}\n")
    return "".join(lines)


def numbers_left(shown, frame):
    """Return the words for the numbers of those that show so many frames, shown telling how many each one does."""
    return spaced_or_none([number for number, many in enumerate(shown) if many >= frame])


def spaced_or_none(things):
    """Return the words for some things, parted by single spaces, the word none without any."""
    return spaced(things) if len(things) > 0 else "none"


def spaced(things):
    """Return the words for some things, parted by single spaces."""
    return " ".join([str(thing) for thing in things])


def told_lines(text):
    """Return the list of the lines of a text, BadLine for a value that is no text of ended lines."""
    if not isinstance(text, str) or text == "":
        raise BadLine(0)
    lines = text.split("\n")
    if lines.pop() != "":
        raise BadLine(len(lines))
    return lines


def told_states(lines, first):
    """Return what the lines from the first one on tell that begin with the word state: (nexts, pictures)."""
    many = 0
    while first + many < len(lines) and lines[first + many].split(" ")[0] == "state":
        many += 1
    found = []
    for state in range(many):
        told = told_state(lines[first + state], state, many)
        if told is None:
            raise BadLine(first + state)
        found.append(told)
    return tuple([row for row, _ in found]), tuple([picture for _, picture in found])


def told_state(line, state, many):
    """Return what the line of a state tells, there being lines of so many: (nexts, picture), None if it is wrong."""
    words = line.split(" ")
    if state >= MOST_STATES or len(words) < 6 or words[4] != "next":
        return None
    if words[:3] != ["state", str(state), "picture"]:
        return None
    picture = told_number(words[3], LAST_PICTURE + 1)
    row = [told_number(word, many) for word in words[5:]]
    if picture is None or None in row or row != sorted(set(row)):
        return None
    return tuple(row), picture


def told_number(word, limit):
    """Return the number from 0 on and below a limit that a word tells, None if it tells none."""
    # A long word is no such number, and Python does not read each of those.
    if not word.isascii() or not word.isdigit() or len(word) > len(str(limit)):
        return None
    number = int(word)
    return number if number < limit and str(number) == word else None

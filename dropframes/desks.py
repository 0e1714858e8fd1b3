"""A desk: a bench led by lines of text."""

from dropframes.benches import Bench
from dropframes.checks import LAST_PICTURE
from dropframes.errors import BadLine
from dropframes.texts import film_text, spaced_or_none, told_number


class Desk:
    """Reels one of which shows a film, watched line by line."""

    def __init__(self, reels, gap):
        self._bench = Bench(reels, gap)

    def do(self, line):
        """Do what a line says, and return the answer to it."""
        picture = told_picture(line)
        if picture is not None:
            return spaced_or_none(self._bench.see(picture))
        if line == "back":
            self._bench.back()
            return spaced_or_none(self._bench.left)
        if line == "left":
            return spaced_or_none(self._bench.left)
        if line == "film":
            return spaced_or_none(self._bench.film)
        if line == "may":
            return spaced_or_none(self._bench.may_come())
        if line == "out":
            return told_out(self._bench.left)
        raise BadLine(0)

    def text(self):
        """Return the text of the film."""
        return film_text(self._bench.film)


def told_picture(line):
    """Return the picture that a line lets be shown, None for a value that is no such line."""
    if not isinstance(line, str) or not line.startswith("see "):
        return None
    return told_number(line[4:], LAST_PICTURE + 1)


def told_out(left):
    """Return the word for the number of the reel that alone is left, or that it is not told yet."""
    return str(left[0]) if len(left) == 1 else "not yet"

"""A bench: a film watched frame by frame, and which of several reels can have shown it."""

from dropframes.checks import MOST_FRAMES, check_gap, check_picture, check_reels
from dropframes.errors import BadStep
from dropframes.films import ahead_of_all, states_at_next
from dropframes.reels import leaps


class Bench:
    """Reels one of which shows a film."""

    def __init__(self, reels, gap):
        check_reels(reels)
        check_gap(gap)
        self._reels = reels
        self._rows = [leaps(reel, gap) for reel in reels]
        self._film = []
        # Where each reel may be, ahead of all frames and behind each one: so a frame can be taken back.
        self._states = [[ahead_of_all(reel) for reel in reels]]

    @property
    def film(self):
        """Return the frames shown."""
        return tuple(self._film)

    @property
    def left(self):
        """Return the ascending tuple of the numbers of the reels that can have shown the film."""
        return tuple([number for number, states in enumerate(self._states[-1]) if len(states) > 0])

    def see(self, picture):
        """Let a frame be shown, and return the numbers of the reels left."""
        check_picture(picture)
        if len(self._film) == MOST_FRAMES:
            raise BadStep("a film has at most 1000 frames")
        if picture not in self.may_come():
            raise BadStep("none of the reels can show this picture next")
        behind = [
            states_at_next(reel, rows, states, picture)
            for reel, rows, states in zip(self._reels, self._rows, self._states[-1])]
        self._film.append(picture)
        self._states.append(behind)
        return self.left

    def may_come(self):
        """Return the ascending tuple of the pictures that some reel can show next."""
        return tuple(sorted({
            reel[1][after] for reel, rows, states in zip(self._reels, self._rows, self._states[-1])
            for state in states for after in rows[state]}))

    def back(self):
        """Take the last frame back."""
        if len(self._film) == 0:
            raise BadStep("no frame has been shown")
        self._film.pop()
        self._states.pop()

"""The errors that the package raises."""


class ReelError(ValueError):
    """The base class of all errors of the package."""


class BadReel(ReelError):
    """A value is no reel; `part` is the first of "reel", "nexts", "pictures" that is wrong."""

    def __init__(self, part):
        super().__init__(f"this is no reel, the wrong part of it: {part}")
        self.part = part


class BadReels(ReelError):
    """A value is no tuple of reels; `index` is that of the first that is no reel, or None."""

    def __init__(self, index):
        super().__init__(f"these are no 2 to 6 reels, the first wrong one: {index}")
        self.index = index


class BadGap(ReelError):
    """A value is no gap."""


class BadFilm(ReelError):
    """A value is no film of at most 1000 frames."""


class BadPicture(ReelError):
    """A value is no picture."""


class BadStep(ReelError):
    """A step cannot be taken where it is asked for."""


class BadLine(ReelError):
    """A text is wrong; `line` is the number of the first line that is, from 0 on."""

    def __init__(self, line):
        super().__init__(f"this text is wrong at the line {line}")
        self.line = line


class BadNumber(ReelError):
    """A value is no number of the range that is asked for."""


class BadChance(ReelError):
    """A value is no chance."""


class BadView(ReelError):
    """A value is no view of the two reels."""


class TooMany(ReelError):
    """There are more things to go through than `most`."""

    def __init__(self, most):
        super().__init__(f"there are more than {most} things to go through")
        self.most = most

"""Texts of reels and films, what texts tell, and tales (points 40 and 41)."""

import functools
import itertools
import random
import unittest

from dropframes.texts import film_text, read_film, read_reel, read_reels, reel_text, reels_text, tale
from helper import STILL, VALUES, drawn_pool, drawn_reel, last_states, raised

ONE, OTHER = (((1,), (0, 1)), (0, 1)), (((0,),), (5,))
SIX = (((0, 1, 2, 3, 4, 5),) * 6, (0, 99, 10, 9, 50, 0))
SIX_LINES = [
    f"state {state} picture {picture} next 0 1 2 3 4 5" for state, picture in enumerate([0, 99, 10, 9, 50, 0])]
RIGHT_LINE = "state 0 picture 5 next 0"
# Wrong in the place of RIGHT_LINE, wherever it stands: numbers, blanks, words, signs.
WRONG_LINES = [
    "", " ", "state", "state ", "state 0", "state 0 picture 5", "state 0 picture 5 next", "state 0 picture 5 next ",
    "state 00 picture 5 next 0", "state 0 picture 05 next 0", "state 0 picture 5 next 00", "state +0 picture 5 next 0",
    "state -0 picture 5 next 0", "state 0 picture +5 next 0", "state 0 picture 5 next +0", "state 0 picture 5 next -0",
    "state 0 picture -5 next 0", "state 0 picture 100 next 0", "state 0 picture 500 next 0",
    "state 0 picture 5 next 1", "state 0 picture " + "9" * 5000 + " next 0", "state 0 picture 5 next " + "0" * 5000,
    "state 0 picture 5 next -1", "state 0 picture 5 next 0 0", "state 0 picture 5 next 0 1",
    "state 0 picture 5 next 1 0", "state 1 picture 5 next 0", " state 0 picture 5 next 0", "state 0 picture 5 next 0 ",
    "state  0 picture 5 next 0", "state 0  picture 5 next 0", "state 0 picture  5 next 0", "state 0 picture 5  next 0",
    "state 0 picture 5 next  0", "\tstate 0 picture 5 next 0", "state\t0 picture 5 next 0",
    "state 0 picture 5 next\t0", "state 0 picture 5 next 0\r", "state 0 picture 5 next 0,", "State 0 picture 5 next 0",
    "state 0 Picture 5 next 0", "state 0 picture 5 Next 0", "stat 0 picture 5 next 0", "states 0 picture 5 next 0",
    "state 0 pictures 5 next 0", "state 0 picture 5 nexts 0", "picture 5 next 0", "state 0 next 0 picture 5",
    "state 0 picture five next 0", "state 0 picture 5.0 next 0", "state 0 picture 5_0 next 0",
    "state 0 picture \u0665 next 0", "state 0 picture \u00b2 next 0", "state 0 picture 5 next \u0660",
    "state \u0660 picture 5 next 0", "state 0 picture 5\u00a0next 0", "state 0 picture 5 next 0 #",
    "state 0 picture 5 0", "state 0 picture  next 0", "state  picture 5 next 0", "state picture 5 next 0",
    "state 0 picture next 0 0", "state 0 picture 5 next x", "state 0 picture 5 next 0 next 0",
    "state 0 picture 5 5 next 0", "film 0", "reel 0 0", "state 0 picture 5 next 0\x0b",
    "state 0 picture 5 next 0\u2028", "(((0,),), (5,))", "state 0 picture 5 next 0x0",
]


def ended(lines):
    """Return the text of these lines, each of them ended."""
    return "".join(line + "\n" for line in lines)


def read(reader, text):
    """Return what a text tells, or the number of the line of the error."""
    try:
        return "told", reader(text)
    except ValueError as error:
        return type(error).__name__, error.line


class Told(unittest.TestCase):
    def test_example(self):
        found = [
            reel_text(ONE), film_text((0, 7)), read_reel("state 0 picture 5 next 0\n") == OTHER, read_film("film\n"),
            read_reels(reels_text((ONE, OTHER))) == (ONE, OTHER)]
        self.assertEqual(found, [
            "state 0 picture 0 next 1\nstate 1 picture 1 next 0 1\n", "film 0 7\n", True, (), True])
        self.assertEqual(raised(read_reel, "state 0 picture 5 next 1\n"), ("BadLine", {"line": 0}))

    def test_reel_text(self):
        self.assertEqual(reel_text(STILL), "state 0 picture 7 next 0\n")
        self.assertEqual(reel_text(SIX), ended(SIX_LINES))

    def test_reels_text(self):
        self.assertEqual(reels_text((OTHER, STILL)), ended([
            "reel 0", "state 0 picture 5 next 0", "reel 1", "state 0 picture 7 next 0"]))
        self.assertEqual(reels_text((SIX, STILL, ONE, SIX, OTHER, STILL)), ended(
            ["reel 0"] + SIX_LINES + ["reel 1", "state 0 picture 7 next 0"]
            + ["reel 2", "state 0 picture 0 next 1", "state 1 picture 1 next 0 1", "reel 3"] + SIX_LINES
            + ["reel 4", "state 0 picture 5 next 0", "reel 5", "state 0 picture 7 next 0"]))

    def test_film_text(self):
        for film, text in [((), "film\n"), ((0,), "film 0\n"), ((99, 0, 10), "film 99 0 10\n")]:
            self.assertEqual(film_text(film), text)
        self.assertEqual(film_text((42,) * 1000), "film" + " 42" * 1000 + "\n")

    def test_wrong_arguments(self):
        for value in VALUES + [None]:
            self.assertEqual(raised(reel_text, value)[0], "BadReel", value)
            self.assertEqual(raised(reels_text, value)[0], "BadReels", value)
        for value in [None, "film\n", [], (100,), (True,), (0,) * 1001]:
            self.assertEqual(raised(film_text, value), ("BadFilm", {}), value)
        self.assertEqual(raised(reel_text, (((1,),), (0,))), ("BadReel", {"part": "nexts"}))
        self.assertEqual(raised(reels_text, (ONE, OTHER, 0)), ("BadReels", {"index": 2}))
        self.assertEqual(raised(reels_text, ONE), ("BadReels", {"index": 0}))

    def test_back_and_forth(self):
        chance = random.Random(40)
        for _ in range(400):
            pool = drawn_pool(chance)
            reels = tuple(drawn_reel(chance, 6, pool) for _ in range(chance.randint(2, 6)))
            film = tuple(chance.randint(0, 99) for _ in range(chance.choice([0, 1, 2, 10, 999, 1000])))
            with self.subTest(reels=reels, film=film):
                self.assertEqual(read_reels(reels_text(reels)), reels)
                self.assertEqual(read_film(film_text(film)), film)
                for reel in reels:
                    self.assertEqual(read_reel(reel_text(reel)), reel)

    def test_kinds_of_values(self):
        reel, reels = read_reel(reel_text(ONE)), read_reels(reels_text((ONE, OTHER)))
        self.assertEqual([type(value) for value in [reel, reel[0], reel[0][0], reel[1], reels, reels[1]]], [tuple] * 6)
        self.assertEqual({type(value) for value in reel[0][1] + reel[1] + read_film("film 0 1\n")}, {int})
        self.assertEqual([type(read_film("film\n")), type(tale((ONE, OTHER), 0, ()))], [tuple, str])


class WrongTexts(unittest.TestCase):
    def assert_wrong(self, reader, text, line):
        with self.subTest(reader.__name__, text=text if len(text) < 500 else text[:500]):
            self.assertEqual(raised(reader, text), ("BadLine", {"line": line}))

    def test_no_string_and_empty_text(self):
        for reader in [read_reel, read_reels, read_film]:
            for value in [None, True, 0, (), [], {}, ("film\n",), ["film\n"], {"film\n": 0}]:
                self.assertEqual(raised(reader, value), ("BadLine", {"line": 0}), value)
            self.assert_wrong(reader, "", 0)
            for text in ["\n", "\n\n", " \n", "x\n", "state\n", "reel\n", "films\n"]:
                self.assert_wrong(reader, text, 0)

    def test_last_line_that_is_not_ended(self):
        self.assert_wrong(read_film, "film 0 7", 0)
        self.assert_wrong(read_reel, "state 0 picture 5 next 0", 0)
        self.assert_wrong(read_reel, reel_text(ONE)[:-1], 1)
        self.assert_wrong(read_reel, ended(SIX_LINES)[:-1], 5)
        self.assert_wrong(read_reels, reels_text((ONE, OTHER))[:-1], 4)
        for reader in [read_reel, read_reels, read_film]:
            # It comes ahead of all that is wrong in the lines before.
            for many in range(12):
                self.assert_wrong(reader, "wrong\n" * many + "x", many)
                self.assert_wrong(reader, "\n" * many + " ", many)
                self.assert_wrong(reader, RIGHT_LINE + "\n" + "film\n" * many + "\r", many + 1)
        self.assert_wrong(read_reel, "x\r" * 5, 0)

    def test_each_wrong_line_of_a_reel(self):
        for line in WRONG_LINES:
            self.assert_wrong(read_reel, line + "\n", 0)
            self.assert_wrong(read_reels, ended(["reel 0", line]), 1)
            self.assert_wrong(read_reels, ended(["reel 0", line, "reel 1", RIGHT_LINE]), 1)
            self.assert_wrong(read_reels, ended(["reel 0", RIGHT_LINE, "reel 1", line]), 3)
            if line != "film 0":
                self.assert_wrong(read_film, line + "\n", 0)
        self.assertEqual(read_reel(RIGHT_LINE + "\n"), OTHER)

    def test_states_that_may_come_next(self):
        line = "state {} picture 5 next {}".format
        self.assert_wrong(read_reel, ended([line(0, "0 1")]), 0)
        self.assert_wrong(read_reel, ended([line(0, "1 2"), line(1, "0")]), 0)
        self.assert_wrong(read_reel, ended([line(0, "0"), line(1, "2")]), 1)
        self.assert_wrong(read_reel, ended([line(0, "1 0"), line(1, "0")]), 0)
        self.assert_wrong(read_reel, ended([line(0, "1 1"), line(1, "0")]), 0)
        self.assertEqual(read_reel(ended([line(0, "1"), line(1, "0 1")])), (((1,), (0, 1)), (5, 5)))
        # The lines that begin with the word count, be they right or wrong, but only those behind one another.
        self.assert_wrong(read_reel, ended([line(0, "1"), "state"]), 1)
        self.assert_wrong(read_reel, ended([line(0, "2"), "state x", "state 9"]), 1)
        for parting in ["states", " state", "", "reel 1", "film", "stat", "state\t1 picture 5 next 0"]:
            self.assert_wrong(read_reel, ended([line(0, "1"), parting, line(1, "0")]), 0)
            self.assert_wrong(read_reel, ended([line(0, "0"), parting, line(1, "0")]), 1)
        # Not those of another reel.
        self.assert_wrong(read_reels, ended(["reel 0", line(0, "1"), "reel 1", line(0, "0"), line(1, "0")]), 1)
        self.assert_wrong(read_reels, ended(["reel 0", line(0, "0"), line(1, "0"), "reel 1", line(0, "1")]), 4)

    def test_seventh_state(self):
        self.assertEqual(read_reel(ended(SIX_LINES)), SIX)
        for seventh in ["state 6 picture 5 next 0", "state 6 picture 5 next 6", "state", "film", RIGHT_LINE]:
            self.assert_wrong(read_reel, ended(SIX_LINES + [seventh]), 6)
            self.assert_wrong(read_reels, ended(["reel 0"] + SIX_LINES + [seventh, "reel 1", RIGHT_LINE]), 7)
        # There are seven lines, behind one another, that begin with the word: one of them has the number 6.
        self.assert_wrong(read_reel, ended([line + " 6" for line in SIX_LINES] + ["state 6 picture 5 next 0"]), 6)
        self.assert_wrong(read_reel, ended([line + " 7" for line in SIX_LINES] + ["state 6 picture 5 next 0"]), 0)
        self.assert_wrong(read_reel, ended([line + " 6" for line in SIX_LINES]), 0)
        self.assert_wrong(read_reel, ended(SIX_LINES + ["state 6 picture 5 next 0"] * 2000), 6)

    def test_reels(self):
        two = ["reel 0", RIGHT_LINE, "reel 1", RIGHT_LINE]
        self.assertEqual(read_reels(ended(two)), (OTHER, OTHER))
        for line in [
                "reel 1", "reel 00", "reel", "reel  0", "reel 0 ", " reel 0", "reel +0", "reel -0", "Reel 0", "x", "",
                RIGHT_LINE, "reel 0 0", "reel 0\r", "film", "reel \u0660", "reels 0", "reel\t0"]:
            self.assert_wrong(read_reels, ended([line] + two[1:]), 0)
            self.assert_wrong(read_reels, ended([line]), 0)
        for line in [
                "reel 0", "reel 2", "reel 01", "reel", "reel  1", "reel 1 ", " reel 1", "reel +1", "x", "", RIGHT_LINE,
                "film", "reel one"]:
            self.assert_wrong(read_reels, ended(two[:2] + [line] + two[3:]), 2)
            self.assert_wrong(read_reels, ended(two[:2] + [line]), 2)

    def test_reel_behind_one_without_a_state(self):
        self.assert_wrong(read_reels, ended(["reel 0", "reel 1", RIGHT_LINE]), 1)
        self.assert_wrong(read_reels, ended(["reel 0", RIGHT_LINE, "reel 1", "reel 2", RIGHT_LINE]), 3)
        self.assert_wrong(read_reels, ended(["reel 0", "reel 1"]), 1)
        self.assert_wrong(read_reels, ended(["reel 0", "reel 0", RIGHT_LINE]), 1)
        self.assert_wrong(read_reels, ended(["reel 0", "", RIGHT_LINE]), 1)

    def test_seventh_reel(self):
        six = [line for number in range(6) for line in [f"reel {number}", RIGHT_LINE]]
        self.assertEqual(read_reels(ended(six)), (OTHER,) * 6)
        for line in ["reel 6", "reel 0", "reel 5", "", RIGHT_LINE]:
            self.assert_wrong(read_reels, ended(six + [line]), 12)
            self.assert_wrong(read_reels, ended(six + [line, RIGHT_LINE]), 12)

    def test_lines_lacking_at_the_end(self):
        self.assert_wrong(read_reels, "reel 0\n", 1)
        self.assert_wrong(read_reels, ended(["reel 0", RIGHT_LINE]), 2)
        self.assert_wrong(read_reels, ended(["reel 0"] + SIX_LINES), 7)
        self.assert_wrong(read_reels, ended(["reel 0", RIGHT_LINE, "reel 1"]), 3)
        self.assert_wrong(read_reels, ended(["reel 0", RIGHT_LINE, "reel 1", RIGHT_LINE, "reel 2"]), 5)
        self.assert_wrong(read_reels, ended([
            line for number in range(5) for line in [f"reel {number}", RIGHT_LINE]] + ["reel 5"]), 11)

    def test_films(self):
        for text, film in [("film\n", ()), ("film 0\n", (0,)), ("film 99 0 10\n", (99, 0, 10))]:
            self.assertEqual(read_film(text), film)
        self.assertEqual(read_film("film" + " 42" * 1000 + "\n"), (42,) * 1000)
        for line in [
                "film" + " 42" * 1001, "film" + " 42" * 5000, "film ", "film  0", "film 0 ", "film 0  0", " film",
                "Film", "film 00", "film 07", "film +7", "film -7", "film 100", "film x", "film 7.0", "film 7,8",
                "film\t7", "", "film \u0667", "film 7\r", "films 7", "fil", "0 7", "film film", "film " + "7" * 5000,
                "film\u00a07"]:
            self.assert_wrong(read_film, line + "\n", 0)
            self.assert_wrong(read_film, line + "\nfilm\n", 0)
        for second in ["film", "film 0", "", " ", "x", "state 0 picture 5 next 0"]:
            self.assert_wrong(read_film, "film 0 7\n" + second + "\n", 1)
            self.assert_wrong(read_film, "film\n" + second + "\n\n\n", 1)


@functools.cache
def heads(state):
    """Return all that may stand ahead of the word next in the line of a state, each with its picture."""
    return {f"state {state} picture {picture}": picture for picture in range(100)} if state < 6 else {}


@functools.cache
def rows(many):
    """Return all that may stand behind the word next, there being lines of so many states, each with what it tells."""
    lots = [lot for size in range(1, many + 1) for lot in itertools.combinations(range(many), size)]
    return {" ".join(str(state) for state in lot): lot for lot in lots}


def read_line_by_line(text, several):
    """Return what a text of one reel or of several tells, or the line of its error, from lists of all right lines."""
    lines = text.split("\n")
    if text == "" or lines[-1] != "":
        return "BadLine", max(0, len(lines) - 1)
    lines = lines[:-1]
    found = [] if several else [[]]
    for number, line in enumerate(lines):
        if several and line == f"reel {len(found)}" and len(found) < 6 and (not found or found[-1]):
            found.append([])
            continue
        first = last = number
        while first > 0 and lines[first - 1].partition(" ")[0] == "state":
            first -= 1
        while last < len(lines) and lines[last].partition(" ")[0] == "state":
            last += 1
        head, _, row = line.partition(" next ")
        if not found or head not in heads(len(found[-1])) or row not in rows(last - first):
            return "BadLine", number
        found[-1].append((rows(last - first)[row], heads(len(found[-1]))[head]))
    if several and (len(found) < 2 or not found[-1]):
        return "BadLine", len(lines)
    reels = tuple((tuple(row for row, _ in reel), tuple(picture for _, picture in reel)) for reel in found)
    return "told", reels if several else reels[0]


class ChangedTexts(unittest.TestCase):
    """Texts changed a little, against lists of all that may stand at a place."""

    def changed(self, chance, text):
        """Change a text by chance."""
        lines = text.split("\n")
        at = chance.randrange(len(lines))
        kind = chance.choice(["sign", "sign", "no sign", "line", "no line", "swap", "again", "word", "number"])
        if kind in ("sign", "no sign"):
            place = chance.randrange(len(text) + 1)
            sign, rest = (chance.choice("0 15-+\nsx"), place) if kind == "sign" else ("", place + 1)
            return text[:place] + sign + text[rest:]
        if kind == "line":
            lines.insert(at, chance.choice([
                "", "state", "reel 0", "reel 1", "reel 2", "state 1 picture 5 next 0 1", RIGHT_LINE, "film"]))
        if kind == "no line":
            del lines[at]
        if kind == "swap":
            other = chance.randrange(len(lines))
            lines[at], lines[other] = lines[other], lines[at]
        if kind == "again":
            lines.insert(chance.randrange(len(lines)), lines[at])
        if kind in ("word", "number"):
            words = lines[at].split(" ")
            place = chance.randrange(len(words))
            words[place] = str(chance.randint(0, 7)) if kind == "number" else words[chance.randrange(len(words))]
            lines[at] = " ".join(words)
        return "\n".join(lines)

    def check(self, seed, reader, several):
        chance = random.Random(seed)
        found = []
        for _ in range(2500):
            reels = tuple(
                drawn_reel(chance, chance.choice([2, 6]), drawn_pool(chance)) for _ in range(chance.randint(2, 6)))
            text = reels_text(reels) if several else reel_text(reels[0])
            for _ in range(chance.choice([0, 1, 1, 2])):
                text = self.changed(chance, text)
            with self.subTest(text=text):
                self.assertEqual(read(reader, text), read_line_by_line(text, several))
            found.append(read(reader, text)[0])
        self.assertTrue(500 < found.count("told") < 2000, found.count("told"))

    def test_one_reel(self):
        self.check(401, read_reel, False)

    def test_several_reels(self):
        self.check(402, read_reels, True)


class Tales(unittest.TestCase):
    def test_example(self):
        self.assertEqual(
            tale((ONE, OTHER), 0, (0, 1, 5)),
            "ahead: 0 1\nframe 1 picture 0: 0\nframe 2 picture 1: 0\nframe 3 picture 5: none\n")

    def test_empty_film(self):
        for many in range(2, 7):
            for gap in [0, 20, None]:
                numbers = " ".join(str(number) for number in range(many))
                self.assertEqual(tale((ONE,) * many, gap, ()), f"ahead: {numbers}\n")

    def test_none_to_the_end(self):
        self.assertEqual(tale((STILL, OTHER), None, (1, 7, 5)), ended([
            "ahead: 0 1", "frame 1 picture 1: none", "frame 2 picture 7: none", "frame 3 picture 5: none"]))

    def test_thousand_frames(self):
        self.assertEqual(tale((STILL, OTHER, STILL), 0, (7,) * 999 + (8,)), ended(
            ["ahead: 0 1 2"] + [f"frame {frame} picture 7: 0 2" for frame in range(1, 1000)]
            + ["frame 1000 picture 8: none"]))

    def test_gaps(self):
        ring = (((1,), (2,), (3,), (4,), (5,), (0,)), (0, 1, 2, 3, 4, 5))
        six = (ring, SIX, ring, SIX, OTHER, ring)
        first = "ahead: 0 1 2 3 4 5\nframe 1 picture 0: 0 1 2 3 5\n"
        self.assertEqual(tale(six, 0, (0, 0)), first + "frame 2 picture 0: 1 3\n")
        for gap in [5, 20, None]:
            self.assertEqual(tale(six, gap, (0, 0)), first + "frame 2 picture 0: 0 1 2 3 5\n")

    def test_wrong_arguments(self):
        self.assertEqual(raised(tale, (ONE,), 21, 0), ("BadReels", {"index": None}))
        self.assertEqual(raised(tale, (ONE, 0), 21, 0), ("BadReels", {"index": 1}))
        self.assertEqual(raised(tale, (ONE, OTHER), 21, 0), ("BadGap", {}))
        self.assertEqual(raised(tale, (ONE, OTHER), None, (7,) * 1001), ("BadFilm", {}))
        self.assertEqual(raised(tale, (ONE, OTHER), None, None), ("BadFilm", {}))

    def test_drawn_films(self):
        chance = random.Random(41)
        ends = []
        for _ in range(300):
            pool = drawn_pool(chance)
            reels = tuple(drawn_reel(chance, 6, pool) for _ in range(chance.randint(2, 6)))
            gap = chance.choice([0, 0, 1, 2, 3, 20, None])
            film = tuple(chance.choice(pool) for _ in range(chance.randint(0, 7)))
            lines = []
            for many in range(len(film) + 1):
                numbers = [str(number) for number, reel in enumerate(reels) if last_states(reel, gap, film[:many])]
                head = f"frame {many} picture {film[many - 1]}" if many else "ahead"
                lines.append(f"{head}: {' '.join(numbers) or 'none'}")
            with self.subTest(reels=reels, gap=gap, film=film):
                self.assertEqual(tale(reels, gap, film), ended(lines))
            ends.append(lines[-1].endswith("none"))
        self.assertTrue(50 < sum(ends) < 250, sum(ends))


if __name__ == "__main__":
    unittest.main()

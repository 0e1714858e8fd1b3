"""A desk, led by lines of text (point 47)."""

import random
import unittest

from dropframes.benches import Bench
from dropframes.desks import Desk
from dropframes.texts import film_text, read_film
from helper import ONE, OTHER, STILL, VALUES, WRONG_GAPS, WRONG_MANY, drawn_pool, drawn_reel, raised

RING = (((1,), (2,), (3,), (4,), (5,), (0,)), (0, 1, 2, 3, 4, 5))
EDGES = (((0, 1), (0, 1)), (0, 99))

# What is no line of a desk.
WRONG_LINES = [None] + VALUES + [
    "see", "see ", "see  0", " see 0", "see 0 ", "see 0  ", "see\t0", "see 0\n", "see 0\r", "\nsee 0", "see\n0",
    "see 00", "see 01", "see 007", "see 099", "see -0", "see -1", "see +1", "see 1.0", "see 1e0", "see 0x0", "see 1_0",
    "see 100", "see 1000", "see 1" + "0" * 5000, "see a", "see 0 1", "see 0,1", "see0", "See 0", "SEE 0", "sees 0",
    "see see 0", "see None", "see \u0660", "see \u00b2", "see \uff11", "see 0\u00a0", "see 0\x00", "\ufeffsee 0",
    "back ", " back", "back  ", "back 1", "back 0", "Back", "backs", "bac", "back\n", "back back", "see back",
    "left ", " left", "left 0", "Left", "left\n", "film ", " film", "film 0", "Film", "film\n", "films",
    "may ", " may", "may 0", "May", "may\n", "mays", "out ", " out", "out 0", "Out", "out\n", "text", "text ",
    "none", "not yet", " ", "  ", "\n", "\t", "\r", "\r\n", ["see 0"], ("see", 0), ("see 0",), {"see 0": 0}, ["back"],
    ("film",), {"film": "film"}, ("out",), (None,), [None],
]


def seen(desk):
    """Return all that a desk tells, and that changes nothing."""
    return [desk.do(line) for line in ["film", "left", "may", "out"]] + [desk.text()]


class Desks(unittest.TestCase):
    def test_example(self):
        desk = Desk((ONE, OTHER), None)
        found = [
            desk.do("may"), desk.do("see 0"), desk.do("out"), desk.do("see 1"), desk.do("out"), desk.do("film"),
            desk.text(), desk.do("back"), desk.do("left")]
        self.assertEqual(found, ["0 1 2", "0 1", "not yet", "0", "0", "0 1", "film 0 1\n", "0 1", "0 1"])
        self.assertEqual(raised(desk.do, "see 100"), ("BadLine", {"line": 0}))

    def test_without_a_frame(self):
        desk = Desk((ONE, OTHER), 0)
        for _ in range(2):
            self.assertEqual(seen(desk), ["none", "0 1", "0", "not yet", "film\n"])
            self.assertEqual(raised(desk.do, "back"), ("BadStep", {}))

    def test_least_and_greatest_picture(self):
        desk = Desk((EDGES, STILL), 0)
        self.assertEqual(desk.do("see 0"), "0")
        self.assertEqual([desk.do("see 99"), desk.do("may"), desk.do("see 0")], ["0", "0 99", "0"])
        self.assertEqual(seen(desk), ["0 99 0", "0", "0 99", "0", "film 0 99 0\n"])
        self.assertEqual([desk.do("back"), desk.do("back"), desk.do("back")], ["0", "0", "0 1"])
        self.assertEqual(seen(desk), ["none", "0 1", "0 7", "not yet", "film\n"])
        for picture in range(100):
            desk = Desk(((((0,),), (picture,)), EDGES, STILL), None)
            left = {0: "0 1", 99: "0 1", 7: "0 2"}.get(picture, "0")
            self.assertEqual(desk.do(f"see {picture}"), left)
            self.assertEqual([desk.do("film"), desk.text()], [str(picture), f"film {picture}\n"])

    def test_out(self):
        desk = Desk((RING, RING, STILL), 20)
        self.assertEqual([desk.do("out"), desk.do("see 7"), desk.do("out")], ["not yet", "2", "2"])
        self.assertEqual([desk.do("back"), desk.do("out")], ["0 1 2", "not yet"])
        self.assertEqual([desk.do("see 5"), desk.do("out")], ["0 1", "not yet"])
        desk = Desk((STILL,) * 5 + (RING,), 0)
        self.assertEqual([desk.do("see 0"), desk.do("out"), desk.do("left")], ["5"] * 3)
        desk = Desk((ONE, STILL), 0)
        self.assertEqual([desk.do("see 0"), desk.do("out"), desk.do("left")], ["0"] * 3)

    def test_all_six_reels(self):
        desk = Desk((STILL,) * 6, None)
        self.assertEqual(
            [desk.do("left"), desk.do("see 7"), desk.do("left"), desk.do("out"), desk.do("back")],
            ["0 1 2 3 4 5"] * 3 + ["not yet", "0 1 2 3 4 5"])

    def test_gaps(self):
        for gap, comes in [(0, "0"), (1, "0 1"), (3, "0 1 2 3"), (20, "0 1 2 3 4 5"), (None, "0 1 2 3 4 5")]:
            self.assertEqual(Desk((RING, RING), gap).do("may"), comes)

    def test_no_line(self):
        desk = Desk((ONE, OTHER), None)
        for line in ["see 0", "see 1", "back"]:
            before = seen(desk)
            for value in WRONG_LINES:
                self.assertEqual(raised(desk.do, value), ("BadLine", {"line": 0}), value)
            self.assertEqual(seen(desk), before)
            desk.do(line)

    def test_errors_of_the_bench(self):
        desk = Desk((ONE, OTHER), 0)
        desk.do("see 0")
        for line in ["see 0", "see 3", "see 99"]:
            self.assertEqual(raised(desk.do, line), ("BadStep", {}))
            self.assertEqual(seen(desk), ["0", "0 1", "1 2", "not yet", "film 0\n"])
        desk.do("back")
        self.assertEqual(raised(desk.do, "back"), ("BadStep", {}))

    def test_thousand_frames(self):
        desk = Desk((STILL, ONE), None)
        for _ in range(1000):
            self.assertEqual(desk.do("see 7"), "0")
        full = [" ".join(["7"] * 1000), "0", "7", "0", "film" + " 7" * 1000 + "\n"]
        self.assertEqual(seen(desk), full)
        for line, error in [("see 7", ("BadStep", {})), ("see 100", ("BadLine", {"line": 0}))]:
            self.assertEqual(raised(desk.do, line), error)
            self.assertEqual(seen(desk), full)
        self.assertEqual([desk.do("back"), desk.do("see 7"), desk.do("film")], ["0", "0", full[0]])

    def test_two_desks_of_equal_arguments(self):
        reels = (ONE, OTHER)
        first, second = Desk(reels, None), Desk(reels, None)
        first.do("see 1")
        self.assertEqual([first.text(), second.text(), second.do("left")], ["film 1\n", "film\n", "0 1"])

    def test_wrong_arguments(self):
        for value, index in WRONG_MANY:
            for gap in [0, 21]:
                self.assertEqual(raised(Desk, value, gap), ("BadReels", {"index": index}), value)
        for value in WRONG_GAPS:
            self.assertEqual(raised(Desk, (ONE, OTHER), value), ("BadGap", {}), value)

    def test_kinds_of_values(self):
        desk = Desk((ONE, OTHER), 0)
        answers = seen(desk) + [desk.do("see 0")] + seen(desk) + [desk.do("back")]
        self.assertEqual({type(answer) for answer in answers}, {str})

    def test_defined_in_the_class_itself(self):
        for name in ["__init__", "do", "text"]:
            self.assertTrue(callable(vars(Desk)[name]))
        self.assertEqual(Desk.__module__, "dropframes.desks")


class RowsOfLines(unittest.TestCase):
    """Rows of lines by chance, held against a bench led beside the desk."""

    def words(self, numbers):
        return " ".join(map(str, numbers)) or "none"

    def lead(self, bench, line):
        """Do on a bench what a right line says, and return the answer that the desk should give, or the error."""
        if line.startswith("see "):
            error = raised(bench.see, int(line[4:]))
            return self.words(bench.left) if error is None else error
        if line == "back":
            error = raised(bench.back)
            return self.words(bench.left) if error is None else error
        out = str(bench.left[0]) if len(bench.left) == 1 else "not yet"
        return {"left": self.words(bench.left), "film": self.words(bench.film), "out": out}.get(
            line, self.words(bench.may_come()))

    def assert_alike(self, desk, bench):
        self.assertEqual(seen(desk), [self.lead(bench, line) for line in ["film", "left", "may", "out"]] + [
            film_text(bench.film)])
        self.assertEqual(read_film(desk.text()), bench.film)

    def test_lines_by_chance(self):
        chance = random.Random(47)
        kinds = {"answer": 0, "BadStep": 0, "BadLine": 0, "out": 0}
        for _ in range(150):
            pool = drawn_pool(chance)
            reels = tuple(drawn_reel(chance, 6, pool) for _ in range(chance.randint(2, 6)))
            gap = chance.choice([0, 0, 1, 2, 3, 20, None])
            desk, bench = Desk(reels, gap), Bench(reels, gap)
            with self.subTest(reels=reels, gap=gap):
                for _ in range(30):
                    self.step(chance, desk, bench, kinds)
        for kind, many in kinds.items():
            self.assertGreater(many, 100, kind)

    def step(self, chance, desk, bench, kinds):
        """Lead both by a line, a wrong one now and then, which changes nothing."""
        before = seen(desk)
        line = chance.choice([
            f"see {chance.choice(bench.may_come())}", f"see {chance.choice(bench.may_come())}",
            f"see {chance.randint(0, 99)}", "back", "left", "film", "may", "out", chance.choice(WRONG_LINES)])
        if line in WRONG_LINES:
            self.assertEqual(raised(desk.do, line), ("BadLine", {"line": 0}))
            self.assertEqual(seen(desk), before)
            kinds["BadLine"] += 1
            return
        wanted = self.lead(bench, line)
        if isinstance(wanted, tuple):
            self.assertEqual(raised(desk.do, line), wanted)
            self.assertEqual(seen(desk), before)
            kinds[wanted[0]] += 1
        else:
            self.assertEqual(desk.do(line), wanted)
            kinds["answer"] += 1
            kinds["out"] += line == "out" and wanted != "not yet"
        self.assert_alike(desk, bench)


if __name__ == "__main__":
    unittest.main()

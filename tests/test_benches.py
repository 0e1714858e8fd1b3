"""A film watched on a bench (point 8)."""

import random
import unittest

from dropframes.benches import Bench
from dropframes.films import could_be
from helper import (
    ONE, OTHER, STILL, WRONG_GAPS, WRONG_MANY, WRONG_PICTURES, drawn_pool, drawn_reel, last_states, raised)

RING = (((1,), (2,), (3,), (4,), (5,), (0,)), (0, 1, 2, 3, 4, 5))


class Benches(unittest.TestCase):
    def test_example(self):
        bench = Bench((ONE, OTHER), None)
        found = [
            bench.may_come(), bench.see(0), bench.may_come(), bench.see(1), bench.left, bench.film, bench.back(),
            bench.left]
        self.assertEqual(found, [(0, 1, 2), (0, 1), (1, 2), (0,), (0,), (0, 1), None, (0, 1)])
        self.assertEqual(raised(bench.see, 3), ("BadStep", {}))

    def test_ahead_of_all_frames(self):
        for many in range(2, 7):
            bench = Bench((STILL, RING) * 3 if many == 6 else (STILL,) * many, 0)
            self.assertEqual([bench.film, bench.left], [(), tuple(range(many))])
            self.assertEqual(raised(bench.back), ("BadStep", {}))
            self.assertEqual([bench.film, bench.left], [(), tuple(range(many))])

    def test_gaps(self):
        for gap, comes, then in [
                (0, (0,), (1,)), (1, (0, 1), (1, 2)), (3, (0, 1, 2, 3), (1, 2, 3, 4)),
                (5, (0, 1, 2, 3, 4, 5), (0, 1, 2, 3, 4, 5)), (20, (0, 1, 2, 3, 4, 5), (0, 1, 2, 3, 4, 5)),
                (None, (0, 1, 2, 3, 4, 5), (0, 1, 2, 3, 4, 5))]:
            bench = Bench((RING, RING), gap)
            self.assertEqual(bench.may_come(), comes)
            self.assertEqual(bench.see(0), (0, 1))
            self.assertEqual(bench.may_come(), then)

    def test_reels_that_cannot_show_it_tell_nothing(self):
        bench = Bench((ONE, OTHER, STILL), 0)
        self.assertEqual([bench.may_come(), bench.left], [(0, 7), (0, 1, 2)])
        self.assertEqual([bench.see(7), bench.may_come(), bench.left], [(2,), (7,), (2,)])
        for picture in [0, 1, 2, 99]:
            self.assertEqual(raised(bench.see, picture), ("BadStep", {}))
        bench.back()
        self.assertEqual([bench.may_come(), bench.left], [(0, 7), (0, 1, 2)])
        self.assertEqual([bench.see(0), bench.may_come(), bench.see(2), bench.may_come()], [(0, 1), (1, 2), (1,), (2,)])

    def test_no_picture(self):
        bench = Bench((STILL, RING), 0)
        for film in [(), (7,)]:
            for value in WRONG_PICTURES:
                self.assertEqual(raised(bench.see, value), ("BadPicture", {}), value)
                self.assertEqual(bench.film, film)
            bench.see(7)

    def test_thousand_frames(self):
        bench = Bench((STILL, (((0,), (0,)), (7, 8)), RING), None)
        for frame in range(1000):
            self.assertEqual(bench.see(7), (0, 1))
        self.assertEqual(bench.film, (7,) * 1000)
        for value, error in [(7, "BadStep"), (8, "BadStep"), (100, "BadPicture"), (True, "BadPicture")]:
            self.assertEqual(raised(bench.see, value), (error, {}))
            self.assertEqual([bench.film, bench.left, bench.may_come()], [(7,) * 1000, (0, 1), (7,)])
        bench.back()
        self.assertEqual([len(bench.film), bench.see(7), len(bench.film)], [999, (0, 1), 1000])
        for frame in range(1000):
            self.assertIsNone(bench.back())
        self.assertEqual([bench.film, bench.left, bench.may_come()], [(), (0, 1, 2), (0, 1, 2, 3, 4, 5, 7)])
        self.assertEqual(raised(bench.back), ("BadStep", {}))

    def test_two_benches_of_equal_arguments(self):
        reels = (ONE, OTHER)
        first, second = Bench(reels, None), Bench(reels, None)
        first.see(1)
        self.assertEqual([first.film, second.film, second.left], [(1,), (), (0, 1)])
        second.see(0)
        self.assertEqual([first.film, second.film, first.left, second.left], [(1,), (0,), (0,), (0, 1)])

    def test_wrong_arguments(self):
        for value, index in WRONG_MANY:
            self.assertEqual(raised(Bench, value, 0), ("BadReels", {"index": index}), value)
            self.assertEqual(raised(Bench, value, 21), ("BadReels", {"index": index}), value)
        for value in WRONG_GAPS:
            self.assertEqual(raised(Bench, (ONE, OTHER), value), ("BadGap", {}), value)

    def test_kinds_of_values(self):
        bench = Bench((ONE, OTHER), 0)
        found = [bench.film, bench.left, bench.may_come(), bench.see(0), bench.film, bench.left]
        self.assertEqual([type(value) for value in found], [tuple] * 6)

    def test_defined_in_the_class_itself(self):
        for name in ["__init__", "see", "may_come", "back"]:
            self.assertTrue(callable(vars(Bench)[name]))
        for name in ["film", "left"]:
            self.assertIs(type(vars(Bench)[name]), property)
        self.assertEqual(Bench.__module__, "dropframes.benches")


class RowsOfCalls(unittest.TestCase):
    def assert_shows(self, bench, reels, gap, film):
        left = tuple(number for number, reel in enumerate(reels) if last_states(reel, gap, film))
        self.assertEqual(bench.film, film)
        self.assertEqual(bench.left, left)
        self.assertEqual(bench.left, could_be(reels, gap, film))
        comes = {picture for reel in reels for picture in reel[1] if last_states(reel, gap, film + (picture,))}
        self.assertEqual(bench.may_come(), tuple(sorted(comes)))
        return left, comes

    def call(self, chance, bench, film, comes):
        """Make a call by chance, and return its answer, the film then, and of what kind the call was."""
        kind = chance.choice(["see", "see", "see", "back", "back", "unlike", "value"])
        if kind == "see" and comes:
            picture = chance.choice(sorted(comes))
            return bench.see(picture), film + (picture,), "see"
        if kind == "back" and film:
            self.assertIsNone(bench.back())
            return None, film[:-1], "back"
        if kind == "value":
            self.assertEqual(raised(bench.see, chance.choice(WRONG_PICTURES)), ("BadPicture", {}))
            return None, film, "value"
        if kind == "unlike" or kind == "see":
            picture = chance.choice([picture for picture in range(100) if picture not in comes])
            self.assertEqual(raised(bench.see, picture), ("BadStep", {}))
            return None, film, "unlike"
        self.assertEqual(raised(bench.back), ("BadStep", {}))
        return None, film, "no back"

    def test_calls_by_chance(self):
        chance = random.Random(8)
        made = []
        for _ in range(150):
            pool = drawn_pool(chance)
            reels = tuple(drawn_reel(chance, 6, pool) for _ in range(chance.randint(2, 6)))
            gap = chance.choice([0, 0, 1, 2, 3, 20, None])
            bench, film = Bench(reels, gap), ()
            with self.subTest(reels=reels, gap=gap):
                _, comes = self.assert_shows(bench, reels, gap, film)
                for _ in range(25):
                    answer, film, kind = self.call(chance, bench, film, comes)
                    left, comes = self.assert_shows(bench, reels, gap, film)
                    if kind == "see":
                        self.assertEqual(answer, left)
                    made.append(kind)
        for kind in ["see", "back", "unlike", "value", "no back"]:
            self.assertGreater(made.count(kind), 50, kind)

    def test_long_films_by_chance(self):
        chance = random.Random(9)
        for _ in range(6):
            pool = drawn_pool(chance)[:3]
            reels = tuple(drawn_reel(chance, 6, pool) for _ in range(4))
            gap = chance.choice([0, 1, None])
            bench, film = Bench(reels, gap), ()
            for _ in range(1000):
                film += (chance.choice(bench.may_come()),)
                left = bench.see(film[-1])
                if len(film) % 100 == 0:
                    self.assertEqual([bench.film, left, bench.left], [film, could_be(reels, gap, film), left])
            self.assertEqual(raised(bench.see, bench.may_come()[0]), ("BadStep", {}))
            for many in range(1000, 0, -1):
                if many % 100 == 0:
                    self.assertEqual([bench.film, bench.left], [film[:many], could_be(reels, gap, film[:many])])
                bench.back()
            self.assertEqual([bench.film, bench.left], [(), (0, 1, 2, 3)])


if __name__ == "__main__":
    unittest.main()

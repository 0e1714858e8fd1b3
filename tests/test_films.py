"""Gaps, films, what reels can show, and reels told apart (point 3)."""

import itertools
import random
import unittest

from dropframes.films import behind, can_show, could_be, told_at
from helper import ONE, OTHER, STILL, drawn_pool, drawn_reel, films_of_runs, last_states, small_reels

RING = (((1,), (2,), (3,), (4,), (5,), (0,)), (0, 1, 2, 3, 4, 5))


class Showing(unittest.TestCase):
    def test_example(self):
        found = [
            can_show(ONE, 0, (1,)), can_show(ONE, 1, (1,)), behind(ONE, 1, ()), could_be((ONE, OTHER), None, (0,)),
            could_be((ONE, OTHER), None, (0, 0)), told_at((ONE, OTHER), None, (0, 1)), told_at((ONE, OTHER), 0, (0,))]
        self.assertEqual(found, [False, True, (0, 1), (0, 1), (), 2, None])

    def test_empty_film(self):
        for gap in [0, 1, 20, None]:
            self.assertIs(can_show(RING, gap, ()), True)
        self.assertEqual([behind(RING, gap, ()) for gap in [0, 1, 4]], [(0,), (0, 1), (0, 1, 2, 3, 4)])
        self.assertEqual([behind(RING, gap, ()) for gap in [5, 6, 20, None]], [(0, 1, 2, 3, 4, 5)] * 4)

    def test_gap_ahead_of_the_first_frame(self):
        for gap in range(5):
            self.assertIs(can_show(RING, gap, (gap,)), True)
            self.assertIs(can_show(RING, gap, (gap + 1,)), False)
            self.assertEqual(behind(RING, gap, (gap,)), (gap,))
            self.assertEqual(behind(RING, gap, (gap + 1,)), ())

    def test_gap_between_two_frames(self):
        for gap in range(5):
            self.assertIs(can_show(RING, gap, (0, gap + 1)), True)
            self.assertIs(can_show(RING, gap, (0, (gap + 2) % 6)), False)
        self.assertIs(can_show(RING, 5, (0, 0)), True)

    def test_same_frame_takes_a_step(self):
        self.assertIs(can_show(ONE, None, (0, 0)), False)
        self.assertIs(can_show(ONE, 0, (0, 1, 1, 1)), True)

    def test_gap_20_and_none(self):
        for gap in [20, None]:
            self.assertIs(can_show(RING, gap, (5, 4, 3, 2, 1, 0, 0)), True)
            self.assertIs(can_show(RING, gap, (6,)), False)
            self.assertEqual(behind(RING, gap, (5, 4)), (4,))

    def test_behind_several_states(self):
        reel = (((1, 2), (0, 3), (3,), (2,)), (8, 9, 9, 8))
        self.assertEqual(behind(reel, 0, (8, 9)), (1, 2))
        self.assertEqual(behind(reel, 0, (8, 9, 8)), (0, 3))
        self.assertEqual(behind(reel, 0, (8, 9, 8, 8)), ())
        self.assertEqual(behind(reel, 1, (9,)), (1, 2))

    def test_films_of_1000_frames(self):
        self.assertIs(can_show(STILL, 0, (7,) * 1000), True)
        self.assertEqual(behind(STILL, 20, (7,) * 1000), (0,))
        self.assertIs(can_show(STILL, None, (7,) * 999 + (8,)), False)
        self.assertEqual(could_be((STILL, RING, STILL), None, (7,) * 1000), (0, 2))
        self.assertIsNone(told_at((STILL, RING, STILL), None, (7,) * 1000))
        self.assertEqual(told_at((STILL, (((0, 1), (1,)), (7, 8))), 0, (7,) * 999 + (8,)), 1000)

    def test_two_reels_and_six(self):
        six = (ONE, OTHER, STILL, RING, ONE, OTHER)
        self.assertEqual(could_be(six, 0, (0,)), (0, 1, 3, 4, 5))
        self.assertEqual(could_be(six, 0, (0, 1)), (0, 3, 4))
        self.assertEqual(could_be(six, 0, (0, 1, 1)), (0, 4))
        self.assertEqual(could_be(six, 0, ()), (0, 1, 2, 3, 4, 5))
        self.assertIsNone(told_at(six, 0, (0, 1, 1)))
        self.assertEqual(told_at(six, 0, (0, 1, 2, 3)), 3)
        self.assertEqual(told_at((ONE, OTHER), 0, (0, 2)), 2)

    def test_told_at_by_none(self):
        # No reel can show the first frame, or the second one: none is left then.
        self.assertEqual(told_at((ONE, OTHER), None, (5,)), 1)
        self.assertEqual(told_at((ONE, OTHER), None, (0, 5, 5)), 2)
        self.assertEqual(told_at((ONE, OTHER, STILL), None, (7,)), 1)
        self.assertIsNone(told_at((ONE, OTHER), None, ()))

    def test_kinds_of_values(self):
        self.assertIs(type(behind(ONE, 0, (1,))), tuple)
        self.assertIs(type(behind(ONE, 0, ())), tuple)
        self.assertIs(type(could_be((ONE, OTHER), 0, (5,))), tuple)
        self.assertIs(type(told_at((ONE, OTHER), 0, (1,))), int)

    def check(self, reel, gap, film, states):
        with self.subTest(reel=reel, gap=gap, film=film):
            self.assertEqual(behind(reel, gap, film), states)
            self.assertIs(can_show(reel, gap, film), len(states) > 0)

    def test_run_by_run(self):
        for reel in small_reels((0, 99)):
            for gap in [0, 1, 2, None]:
                for many in [1, 2, 3]:
                    films = films_of_runs(reel, gap, many)
                    for film in itertools.product((0, 99, 50), repeat=many):
                        self.check(reel, gap, film, tuple(sorted(films.get(film, ()))))

    def test_run_by_run_three_states(self):
        chance = random.Random(3)
        for _ in range(60):
            reel = drawn_reel(chance, 3, drawn_pool(chance)[:3])
            for gap in [0, 1, 2, None]:
                films = films_of_runs(reel, gap, 2)
                for film in itertools.product(sorted(set(reel[1])), repeat=2):
                    self.check(reel, gap, film, tuple(sorted(films.get(film, ()))))

    def test_drawn_reels(self):
        chance = random.Random(4)
        shown = 0
        for _ in range(1500):
            reel = drawn_reel(chance, 6, drawn_pool(chance))
            film = tuple(chance.choice(reel[1]) for _ in range(chance.choice([0, 1, 2, 3, 4, 5, 8])))
            gap = chance.choice([0, 1, 2, 3, 4, 5, 6, 20, None])
            states = last_states(reel, gap, film)
            self.check(reel, gap, film, states)
            shown += len(states) > 0
        self.assertTrue(400 < shown < 1400)

    def test_drawn_reels_together(self):
        chance = random.Random(5)
        told = 0
        for _ in range(400):
            pool = drawn_pool(chance)
            reels = tuple(drawn_reel(chance, 6, pool) for _ in range(chance.randint(2, 6)))
            gap = chance.choice([0, 1, 2, 3, 20, None])
            film = tuple(chance.choice(pool) for _ in range(chance.randint(0, 6)))
            left = [
                tuple(number for number, reel in enumerate(reels) if last_states(reel, gap, film[:many]))
                for many in range(len(film) + 1)]
            few = [many for many in range(len(film) + 1) if len(left[many]) < 2]
            with self.subTest(reels=reels, gap=gap, film=film):
                self.assertEqual(could_be(reels, gap, film), left[-1])
                self.assertEqual(told_at(reels, gap, film), few[0] if few else None)
            told += len(few) > 0
        self.assertTrue(80 < told < 320)


if __name__ == "__main__":
    unittest.main()

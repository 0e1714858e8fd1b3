"""Reels and what recurs (point 2)."""

import random
import unittest

from dropframes.reels import passing, recurring_pictures, recurring_states
from helper import STILL, drawn_pool, drawn_reel, passed, recurring, small_reels


class Recurring(unittest.TestCase):
    def test_example(self):
        reel = (((1,), (1, 2), (2,)), (5, 7, 9))
        self.assertEqual(
            [recurring_states(reel), recurring_pictures(reel), passing(reel)], [(1, 2), (7, 9), 1])

    def test_one_state(self):
        self.assertEqual([recurring_states(STILL), recurring_pictures(STILL), passing(STILL)], [(0,), (7,), 0])

    def test_six_states_in_a_row(self):
        row = (((1,), (2,), (3,), (4,), (5,), (5,)), (99, 98, 97, 96, 95, 0))
        self.assertEqual([recurring_states(row), recurring_pictures(row), passing(row)], [(5,), (0,), 5])

    def test_six_states_in_a_round(self):
        ring = (((1,), (2,), (3,), (4,), (5,), (0,)), (99, 0, 99, 50, 0, 1))
        self.assertEqual(
            [recurring_states(ring), recurring_pictures(ring), passing(ring)], [(0, 1, 2, 3, 4, 5), (0, 1, 50, 99), 0])

    def test_round_that_no_run_comes_to(self):
        reel = (((0,), (1, 2), (1,)), (3, 4, 5))
        self.assertEqual([recurring_states(reel), recurring_pictures(reel), passing(reel)], [(0,), (3,), 0])

    def test_state_that_no_run_comes_to_does_not_pass(self):
        reel = (((0,), (2,), (0,)), (3, 4, 5))
        self.assertEqual([recurring_states(reel), passing(reel)], [(0,), 0])

    def test_passing_is_on_one_run(self):
        # Of the states 1, 2, 3 and 4 a run has 1 and 2, or 3 alone, or 4 alone.
        reel = (((1, 3, 4), (2,), (5,), (5,), (5,), (5,)), (0, 1, 2, 3, 4, 5))
        self.assertEqual([recurring_states(reel), passing(reel)], [(5,), 3])

    def test_passing_between_states_that_recur(self):
        # The run 0 1 2 2 3 4 .. has three states that do not recur, with a recurring one between.
        reel = (((1,), (2,), (2, 3), (4,), (4,)), (0, 0, 1, 0, 2))
        self.assertEqual([recurring_states(reel), recurring_pictures(reel), passing(reel)], [(2, 4), (1, 2), 3])

    def test_passing_against_the_numbering(self):
        reel = (((5,), (1,), (1,), (2,), (3,), (4,)), (0, 0, 0, 0, 0, 1))
        self.assertEqual([recurring_states(reel), passing(reel)], [(1,), 5])

    def test_kinds_of_values(self):
        for reel in [STILL, (((1,), (1,)), (0, 99))]:
            self.assertIs(type(recurring_states(reel)), tuple)
            self.assertIs(type(recurring_pictures(reel)), tuple)
            self.assertIs(type(passing(reel)), int)

    def check(self, reel):
        with self.subTest(reel=reel):
            states = recurring(reel)
            self.assertEqual(recurring_states(reel), states)
            self.assertEqual(recurring_pictures(reel), tuple(sorted({reel[1][state] for state in states})))
            self.assertEqual(passing(reel), passed(reel))

    def test_run_by_run(self):
        for reel in small_reels((0, 99)):
            self.check(reel)
        chance = random.Random(2)
        for _ in range(400):
            self.check(drawn_reel(chance, 5, drawn_pool(chance)))
        for _ in range(60):
            self.check(drawn_reel(chance, 6, drawn_pool(chance)))


if __name__ == "__main__":
    unittest.main()

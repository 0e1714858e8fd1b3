"""What surely comes out, open and endless films, the least gap, several reels (points 4, 5 and 6)."""

import itertools
import unittest

from dropframes.films import can_show
from dropframes.pairs import (
    all_come_out, comes_out, endless_film, least_gap, longest_open, most_open, open_film, ranks, shows_endless_film,
    shows_open_film)
from helper import STILL, VALUES

ONE, OTHER = (((1,), (0,)), (0, 1)), (((1,), (2,), (0,)), (0, 0, 1))
RING = (((1,), (2,), (3,), (4,), (5,), (0,)), (0, 1, 2, 3, 4, 5))
ZERO = (((0,),), (0,))
FIVE = (((0,),), (5,))
# Five states that pass, then a picture for ever; and a picture as long as it pleases, then four that pass.
ROW = (((1,), (2,), (3,), (4,), (5,), (5,)), (1, 1, 1, 1, 1, 2))
LATE = (((0, 1), (2,), (3,), (4,), (5,), (5,)), (1, 2, 2, 2, 2, 3))
GAPS = [0, 1, 2, 5, 20, None]
BOOLEANS = [repr(list(row)) for row in itertools.product([False, True], repeat=3)]


def shown_for_long(one, other, gap, value):
    """Tell whether both reels can show a film and again behind it, 200 times or so."""
    film, again = value
    long = (film + again * 200)[:1000]
    return can_show(one, gap, long) and can_show(other, gap, long)


class Examples(unittest.TestCase):
    def test_two_reels(self):
        found = [
            [comes_out(ONE, OTHER, gap) for gap in [0, 1, None]], least_gap(ONE, OTHER), longest_open(ONE, OTHER, 0),
            open_film(ONE, OTHER, 0), ranks(ONE, OTHER, 0), shows_endless_film(ONE, OTHER, 1, ((), (0, 1))),
            shows_endless_film(ONE, OTHER, 1, endless_film(ONE, OTHER, 1))]
        self.assertEqual(found, [[True, False, False], 1, 1, (0,), ((0, 0, 1),), True, True])

    def test_several_reels(self):
        found = [
            all_come_out((ONE, OTHER), 0), most_open((ONE, OTHER), 0), most_open((ONE, OTHER, ONE), None),
            shows_open_film(ONE, OTHER, 0, (1,))]
        self.assertEqual(found, [True, 1, None, False])


class Open(unittest.TestCase):
    def test_no_frame_at_all(self):
        for gap in GAPS:
            self.assertIs(comes_out(STILL, ZERO, gap), True)
            self.assertEqual(longest_open(STILL, ZERO, gap), 0)
            self.assertEqual(open_film(STILL, ZERO, gap), ())
            self.assertEqual(ranks(STILL, ZERO, gap), ())
            self.assertIsNone(endless_film(STILL, ZERO, gap))
            self.assertIs(shows_open_film(STILL, ZERO, gap, ()), True)
            self.assertIs(shows_open_film(STILL, ZERO, gap, None), False)

    def test_same_reel_twice(self):
        for reel in [STILL, RING, ROW]:
            for gap in GAPS:
                self.assertIs(comes_out(reel, reel, gap), False)
                self.assertIsNone(longest_open(reel, reel, gap))
                self.assertIsNone(open_film(reel, reel, gap))
                self.assertIsNone(ranks(reel, reel, gap))
                self.assertIs(shows_open_film(reel, reel, gap, None), True)
                self.assertIs(shows_open_film(reel, reel, gap, ()), False)

    def test_six_states_and_six(self):
        # As many frames as states of both that do not recur: no open film by the gap None has more.
        for gap in GAPS:
            self.assertEqual(longest_open(ROW, LATE, gap), 9)
            self.assertEqual(open_film(ROW, LATE, gap), (1, 1, 1, 1, 1, 2, 2, 2, 2))
            self.assertEqual(longest_open(LATE, ROW, gap), 9)
        self.assertEqual(
            ranks(ROW, LATE, 0),
            tuple((state, 0, 9 - state) for state in range(5)) + tuple((5, twin, 5 - twin) for twin in range(1, 5)))

    def test_any_longest_open_film_will_do(self):
        one, other = (((1, 2), (1,), (2,)), (4, 5, 6)), (((1, 2), (3,), (3,), (3,)), (4, 5, 6, 7))
        self.assertEqual(longest_open(one, other, 0), 2)
        self.assertEqual([shows_open_film(one, other, 0, (4, last)) for last in [5, 6, 7]], [True, True, False])
        self.assertIn(open_film(one, other, 0), [(4, 5), (4, 6)])
        for value in [(4,), (), None, [4, 5], (4, True), (4, "5"), ((4, 5),), (4, 5, 5), {4: 5}]:
            self.assertIs(shows_open_film(one, other, 0, value), False)

    def test_open_is_what_both_can_show(self):
        one, other = (((1, 2), (1,), (2,)), (4, 5, 6)), (((1, 2), (3,), (2,), (3,)), (4, 5, 8, 7))
        self.assertEqual(longest_open(one, other, 0), 2)
        for value, wanted in [((4, 5), True), ((4, 6), False), ((4, 8), False), ((4, 9), False)]:
            self.assertIs(shows_open_film(one, other, 0, value), wanted)
            self.assertIs(shows_open_film(other, one, 0, value), wanted)

    def test_shorter_is_not_open_as_long(self):
        self.assertIs(shows_open_film(ROW, LATE, 0, (1, 1, 1, 1, 1, 2, 2, 2)), False)
        self.assertIs(shows_open_film(ROW, LATE, 0, (1, 1, 1, 1, 2, 2, 2, 2, 2)), False)
        self.assertIs(shows_open_film(ROW, LATE, 0, (1, 1, 1, 1, 1, 2, 2, 2, 2)), True)
        self.assertIs(shows_open_film(ROW, LATE, 0, (1,) * 1001), False)

    def test_true_is_no_picture(self):
        self.assertIs(shows_open_film(ONE, OTHER, 0, (0,)), True)
        self.assertIs(shows_open_film(ONE, OTHER, 0, (False,)), False)

    def test_ranks_count_to_the_end(self):
        # From the pair of the states 1 and 1 two frames stay open, from 2 and 1 one: 6 comes to the one alone.
        one = (((1, 2), (3,), (2,), (3,)), (4, 5, 5, 6))
        other = (((1,), (2,), (2,)), (4, 5, 6))
        self.assertIsNone(ranks(one, other, 0))
        other = (((1,), (2,), (3,), (3,)), (4, 5, 6, 7))
        self.assertEqual(ranks(one, other, 0), ((0, 0, 3), (1, 1, 2), (2, 1, 1), (3, 2, 1)))
        self.assertEqual(ranks(one, other, 1), ((0, 0, 3), (1, 1, 2), (2, 1, 1), (3, 2, 1)))

    def test_kinds_of_values(self):
        self.assertIs(type(longest_open(ROW, LATE, None)), int)
        self.assertIs(type(open_film(ROW, LATE, None)), tuple)
        self.assertEqual({type(row) for row in ranks(ROW, LATE, None)}, {tuple})
        self.assertIs(type(ranks(ROW, LATE, None)), tuple)
        self.assertEqual([type(part) for part in endless_film(ONE, OTHER, None)], [tuple, tuple])
        self.assertIs(type(endless_film(ONE, OTHER, None)), tuple)


class Endless(unittest.TestCase):
    def test_endless_film_goes_on(self):
        ahead = (((1,), (2,), (1,)), (9, 0, 1))
        twins = [(ONE, OTHER), (ROW, ROW), (RING, RING), (RING, ZERO), (RING, FIVE), (ahead, ahead), (LATE, LATE)]
        for one, other in twins:
            for gap in GAPS:
                value = endless_film(one, other, gap)
                with self.subTest(one=one, other=other, gap=gap):
                    self.assertEqual(value is None, comes_out(one, other, gap))
                    self.assertIs(shows_endless_film(one, other, gap, value), True)
                    if value is not None:
                        self.assertGreater(len(value[1]), 0)
                        self.assertTrue(shown_for_long(one, other, gap, value))

    def test_any_endless_film_will_do(self):
        good = [((), (0, 1)), ((0,), (1, 0)), ((0, 1), (0, 1)), ((0, 1) * 500, (0, 1) * 500), ((), (0, 1, 0, 1))]
        self.assertEqual([shows_endless_film(ONE, OTHER, 1, value) for value in good], [True] * 5)
        bad = [
            ((), ()), ((0, 1), ()), ((), (2,)), ((2,), (0, 1)), None, (0, 1), ((0, 1),), [(), (0, 1)], ([], (0, 1)),
            ((), [0, 1]), ((), (0, 1), ()), ((), (False, True)), ((), (0, 100)), ((-1,), (0, 1)),
            ((), "01"), ((), (0, None)), ((), ((0,), (1,))), {0: (), 1: (0, 1)}]
        self.assertEqual([shows_endless_film(ONE, OTHER, 1, value) for value in bad], [False] * len(bad))

    def test_films_of_1000_frames_and_of_more(self):
        for gap in GAPS:
            self.assertIs(shows_endless_film(STILL, STILL, gap, ((7,) * 1000, (7,) * 1000)), True)
            self.assertIs(shows_endless_film(STILL, STILL, gap, ((7,) * 1001, (7,))), False)
            self.assertIs(shows_endless_film(STILL, STILL, gap, ((), (7,) * 1001)), False)
            self.assertIs(shows_endless_film(STILL, STILL, gap, ((7,) * 999 + (8,), (7,))), False)
            self.assertIs(shows_endless_film(STILL, STILL, gap, ((), (7,) * 999 + (8,))), False)

    def test_both_must_go_on(self):
        # The one can show 0 0 0 .. too, the other one cannot, by the gap 0.
        one, other = (((0, 1), (0, 1)), (0, 1)), (((1,), (0,)), (0, 1))
        self.assertIs(shows_endless_film(one, other, 0, ((), (0, 1))), True)
        for twins in [(one, other), (other, one)]:
            self.assertIs(shows_endless_film(*twins, 0, ((), (0,))), False)
            self.assertIs(shows_endless_film(*twins, 0, ((), (0, 0, 1))), False)
            self.assertIs(shows_endless_film(*twins, 1, ((), (0,))), True)

    def test_what_ends_late_is_not_endless(self):
        # Again can stand behind itself four times, but not a fifth time.
        self.assertIs(shows_endless_film(LATE, LATE, 0, ((1,), (2,))), False)
        self.assertIs(shows_endless_film(LATE, LATE, 0, ((1, 2, 2, 2, 2), (3,))), True)
        self.assertIs(shows_endless_film(LATE, LATE, 0, ((1, 2, 2, 2), (3,))), False)
        self.assertIs(shows_endless_film(LATE, LATE, 1, ((1, 2, 2, 2), (3,))), True)
        # Only behind one of two ways, and only every third time at its start.
        ring = (((1,), (2,), (0,)), (0, 0, 1))
        self.assertIs(shows_endless_film(ring, ring, 0, ((), (0, 0, 1))), True)
        self.assertIs(shows_endless_film(ring, ring, 0, ((0,), (0, 1, 0))), True)
        self.assertIs(shows_endless_film(ring, ring, 0, ((), (0, 1, 0))), False)

    def test_surely_comes_out(self):
        self.assertIs(shows_endless_film(ONE, OTHER, 0, None), True)
        self.assertIsNone(endless_film(ONE, OTHER, 0))
        for value in [((), (0, 1)), ((), ()), (), 0, False]:
            self.assertIs(shows_endless_film(ONE, OTHER, 0, value), False)

    def test_shows_tells_of_any_value(self):
        # By the gap 0 it surely comes out, after the frame 0; by the gap 1 both can show 0 0 0 .. .
        values = VALUES + [None, (False,), ((), (0, 100)), (0, (0,)), ((0,), 0)]
        found = [value for value in values if shows_open_film(ONE, OTHER, 0, value)]
        self.assertEqual(repr(found), "[(0,)]")
        self.assertEqual([value for value in values if shows_endless_film(ONE, OTHER, 0, value)], [None])
        self.assertEqual([value for value in values if shows_open_film(ONE, OTHER, 1, value)], [None])
        self.assertEqual([value for value in values if shows_endless_film(ONE, OTHER, 1, value)], [((0,), (0,))])
        for value in values:
            for shows in [shows_open_film, shows_endless_film]:
                self.assertIn(repr([shows(ONE, OTHER, gap, value) for gap in [0, 1, 20]]), BOOLEANS)


class Several(unittest.TestCase):
    def test_least_gap(self):
        self.assertEqual(least_gap(ONE, ONE), 0)
        self.assertEqual(least_gap(ONE, OTHER), 1)
        self.assertIsNone(least_gap(STILL, ZERO))
        self.assertIsNone(least_gap(ROW, LATE))
        # A picture that one of six states in a round bears: five others stand between.
        self.assertEqual([least_gap(RING, ZERO), least_gap(RING, FIVE), least_gap(FIVE, RING)], [5, 5, 5])
        gaps = [0, 4, 5, 6, 20, None]
        self.assertEqual([longest_open(RING, ZERO, gap) for gap in gaps], [1, 1, None, None, None, None])
        self.assertEqual([longest_open(RING, FIVE, gap) for gap in gaps], [0, 0, None, None, None, None])

    def test_all_come_out(self):
        self.assertIs(all_come_out((STILL, ZERO, FIVE), None), True)
        self.assertIs(all_come_out((STILL, ZERO, FIVE, RING), 4), True)
        self.assertIs(all_come_out((STILL, ZERO, FIVE, RING), 5), False)
        for place in range(5):
            reels = [STILL, ZERO, ONE, ROW, RING]
            reels.insert(place, reels[-1])
            self.assertIs(all_come_out(tuple(reels), 0), False)
            self.assertIsNone(most_open(tuple(reels), 0))
        self.assertIs(all_come_out((STILL, STILL), 0), False)
        self.assertIs(all_come_out((ZERO, STILL, FIVE, STILL), 0), False)

    def test_most_open(self):
        self.assertEqual(most_open((STILL, ZERO, FIVE), 20), 0)
        self.assertEqual(most_open((STILL, ZERO, FIVE, RING), 4), 1)
        self.assertIsNone(most_open((STILL, ZERO, FIVE, RING), 5))
        for reels in [(ROW, STILL, LATE), (STILL, LATE, ROW), (LATE, ROW, STILL, ZERO, FIVE, (((0,),), (50,)))]:
            self.assertEqual(most_open(reels, None), 9)
            self.assertIs(all_come_out(reels, None), True)


if __name__ == "__main__":
    unittest.main()

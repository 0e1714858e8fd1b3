"""Pictures seen alike (point 46)."""

import itertools
import random
import unittest

from dropframes.pairs import comes_out
from dropframes.views import coarsest_views, viewed
from helper import (
    STILL, WRONG_GAPS, WRONG_REELS, WRONG_VIEWS, drawn_reel, raised, small_reels, stays_open_for_ever)

ONE, OTHER = (((0,),), (4,)), (((1,), (0,)), (5, 6))
ZERO = (((0,),), (0,))
RING = (((1,), (2,), (3,), (4,), (5,), (0,)), (0, 1, 2, 3, 4, 5))
SIX, SEVEN = (((0,),), (6,)), (((1,), (1,)), (6, 7))
GAPS = [0, 1, 2, 5, 20, None]


def all_views(pictures):
    """Return all views of some pictures: each picture by a number, those of one number in one tuple."""
    found = set()
    for numbers in itertools.product(range(len(pictures)), repeat=len(pictures)):
        lots = [tuple(sorted(p for p, n in zip(pictures, numbers) if n == number)) for number in set(numbers)]
        found.add(tuple(sorted(lots)))
    return found


def put_by_least(reel, view):
    return reel[0], tuple(next(lot for lot in view if picture in lot)[0] for picture in reel[1])


def coarsest_one_by_one(one, other, gap):
    good = [
        view for view in all_views(sorted(set(one[1] + other[1])))
        if not stays_open_for_ever(put_by_least(one, view), put_by_least(other, view), gap)]
    return tuple(sorted(view for view in good if len(view) == min(map(len, good))))


class Views(unittest.TestCase):
    def test_example(self):
        found = [
            viewed(ONE, OTHER, ((4, 6), (5,))), coarsest_views(ONE, OTHER, 0), coarsest_views(ONE, OTHER, None),
            coarsest_views(ONE, ONE, 0)]
        self.assertEqual(found, [
            ((((0,),), (4,)), (((1,), (0,)), (5, 4))), (((4,), (5, 6)), ((4, 5), (6,)), ((4, 6), (5,))),
            (((4,), (5, 6)),), ()])

    def test_viewed_by_one_tuple(self):
        self.assertEqual(viewed(ONE, OTHER, ((4, 5, 6),)), ((((0,),), (4,)), (((1,), (0,)), (4, 4))))
        self.assertEqual(viewed(STILL, STILL, ((7,),)), (STILL, STILL))
        self.assertEqual(viewed(RING, SIX, ((0, 1, 2, 3, 4, 5, 6),)), ((RING[0], (0,) * 6), ZERO))

    def test_viewed_by_tuples_of_one_picture(self):
        for one, other in [(ONE, OTHER), (RING, SEVEN), (RING, RING), (STILL, ZERO)]:
            view = tuple((picture,) for picture in sorted(set(one[1] + other[1])))
            self.assertEqual(viewed(one, other, view), (one, other))

    def test_viewed_by_the_least_one(self):
        self.assertEqual(
            viewed(RING, SEVEN, ((0, 7), (1, 4, 5), (2,), (3, 6))),
            ((RING[0], (0, 1, 2, 3, 1, 1)), (SEVEN[0], (3, 0))))
        # States that no run comes to bear pictures too.
        lone = (((0,), (1,)), (99, 0))
        self.assertEqual(viewed(lone, STILL, ((0, 7, 99),)), ((((0,), (1,)), (0, 0)), ZERO))
        self.assertEqual(raised(viewed, lone, STILL, ((7, 99),)), ("BadView", {}))
        # Twelve unlike pictures: only the coarsest views have a limit.
        high = (RING[0], (94, 95, 96, 97, 98, 99))
        self.assertEqual(viewed(RING, high, (tuple(RING[1] + high[1]),)), ((RING[0], (0,) * 6),) * 2)

    def test_viewed_twice(self):
        once = viewed(RING, SEVEN, ((0, 7), (1, 4, 5), (2,), (3, 6)))
        self.assertEqual(viewed(*once, ((0,), (1,), (2,), (3,))), once)
        self.assertEqual(viewed(*once, ((0, 1, 2, 3),)), ((RING[0], (0,) * 6), (SEVEN[0], (0, 0))))

    def test_no_view(self):
        for value in WRONG_VIEWS + [
                ((4, 5, 6, 7),), ((4, 5),), ((4,), (5,)), ((5, 6), (4,)), ((4, 6, 5),), ((4,), (5, 5, 6)),
                ((4, 5), (5, 6)), ((4,), (4, 5, 6)), ((4, 5, 6), 7), [(4, 5, 6)], ([4, 5, 6],), ((4, 5, "6"),),
                ((4, 5, None),), (4, 5, 6), ((4,), (6,), (5,)), ((4,), [5, 6]), {(4, 5, 6): 0}, ((4, 5, 6), ()),
                ((), (), (4, 5, 6)), ((-4, 4, 5, 6),), ((4, 5, 6, 100),), (((4, 5, 6),),), ((4, (5, 6)),), 456, "456"]:
            self.assertEqual(raised(viewed, ONE, OTHER, value), ("BadView", {}), value)

    def test_true_is_no_picture(self):
        low = (((1,), (0,)), (0, 1))
        self.assertEqual(viewed(low, ZERO, ((0, 1),)), ((low[0], (0, 0)), ZERO))
        for value in [((False, True),), ((0, True),), ((False, 1),), ((0,), (True,)), ((False,), (1,))]:
            self.assertEqual(raised(viewed, low, ZERO, value), ("BadView", {}), value)

    def test_tuples_without_pictures(self):
        # They are ascending, and nothing else than the pictures stands in them; twice is not ascending (above).
        self.assertEqual(viewed(ONE, OTHER, ((), (4, 6), (5,))), viewed(ONE, OTHER, ((4, 6), (5,))))

    def test_none_by_which_it_comes_out(self):
        for gap in GAPS:
            for reel in [STILL, RING, ONE, OTHER]:
                self.assertEqual(coarsest_views(reel, reel, gap), ())
        shown = [coarsest_views(RING, (((0,),), (5,)), gap) for gap in [4, 5, 20, None]]
        self.assertEqual([len(views) > 0 for views in shown], [True, False, False, False])

    def test_one_state_each(self):
        for gap in GAPS:
            self.assertEqual(coarsest_views(STILL, ZERO, gap), (((0,), (7,)),))
            self.assertEqual(coarsest_views(ZERO, STILL, gap), (((0,), (7,)),))

    def test_seven_unlike_pictures_and_eight(self):
        for gap in [0, None]:
            views = coarsest_views(RING, SIX, gap)
            self.assertIn(((0, 1, 2, 3, 4, 5), (6,)), views)
            self.assertEqual({len(view) for view in views}, {2})
            self.assertEqual(raised(coarsest_views, RING, SEVEN, gap), ("TooMany", {"most": 7}))
            self.assertEqual(raised(coarsest_views, SEVEN, RING, gap), ("TooMany", {"most": 7}))
        # All two tuples with some picture of the ring beside 6 and some not, but by the gap None.
        self.assertEqual(len(coarsest_views(RING, SIX, 0)), 2 ** 6 - 1)
        self.assertEqual(coarsest_views(RING, SIX, None), (((0, 1, 2, 3, 4, 5), (6,)),))
        # Pictures of states that no run comes to count too; what both reels bear counts once.
        lone = (((0,),) * 6, (1, 2, 3, 4, 5, 6))
        self.assertEqual(raised(coarsest_views, lone, (((0,), (0,)), (7, 8)), 0), ("TooMany", {"most": 7}))
        self.assertEqual(len(coarsest_views(lone, (((0,), (0,)), (7, 6)), 0)), 2 ** 5)
        # Too many, though it comes out by no view.
        lone, other = (((0,),) * 6, (0, 1, 2, 3, 4, 5)), (((0,),) * 3, (0, 6, 7))
        self.assertEqual(raised(coarsest_views, lone, other, None), ("TooMany", {"most": 7}))

    def test_states_that_no_run_comes_to_may_be_seen_as_any(self):
        one, other = (((0,), (1,)), (3, 8)), (((0,), (1,)), (4, 8))
        for gap in GAPS:
            self.assertEqual(coarsest_views(one, other, gap), (((3,), (4, 8)), ((3, 8), (4,))))

    def test_two_tuples_and_more(self):
        # 0 1 2 0 1 2 .. and 0 2 1 0 2 1 ..: 1 and 2 seen alike they go on alike.
        one, other = (((1,), (2,), (0,)), (0, 1, 2)), (((1,), (2,), (0,)), (0, 2, 1))
        self.assertEqual(coarsest_views(one, other, 0), (((0, 1), (2,)), ((0, 2), (1,))))
        self.assertEqual([coarsest_views(one, other, gap) for gap in [1, 2, 20, None]], [()] * 4)
        # All three pictures must be seen unlike.
        three = ((0,), (1,), (2,))
        one, other = (((0, 1), (0,)), (1, 0)), (((1, 2), (0, 2), (2,)), (1, 2, 0))
        self.assertEqual([coarsest_views(one, other, gap) for gap in GAPS], [(three,)] + [()] * 5)
        one, other = (((0, 1), (1,)), (1, 0)), (((1,), (2,), (0,)), (2, 0, 1))
        self.assertEqual([coarsest_views(one, other, gap) for gap in [1, 2]], [(three,), ()])
        one = (((1, 3), (2,), (0, 2), (2,)), (4, 0, 5, 1))
        other = (((0, 5), (1, 2), (5,), (3, 5), (1,), (1, 3)), (0, 1, 1, 4, 5, 2))
        self.assertEqual(coarsest_views(one, other, 1), (((0, 1), (2,), (4,), (5,)),))

    def test_too_many_comes_behind_all_others(self):
        self.assertEqual(raised(coarsest_views, RING, SEVEN, 21), ("BadGap", {}))
        self.assertEqual(raised(coarsest_views, RING, (SEVEN[0], (6, 100)), 0), ("BadReel", {"part": "pictures"}))

    def test_wrong_arguments(self):
        for value, part in WRONG_REELS:
            for arguments in [(value, 0), (STILL, value)]:
                self.assertEqual(raised(viewed, *arguments, ()), ("BadReel", {"part": part}), value)
                self.assertEqual(raised(coarsest_views, *arguments, 21), ("BadReel", {"part": part}), value)
        for value in WRONG_GAPS:
            self.assertEqual(raised(coarsest_views, STILL, ZERO, value), ("BadGap", {}), value)

    def test_kinds_of_values(self):
        found = viewed(ONE, OTHER, ((4, 6), (5,)))
        self.assertEqual([type(value) for value in [found, *found, *found[0], *found[1]]], [tuple] * 7)
        views = coarsest_views(ONE, OTHER, 0)
        self.assertEqual({type(value) for view in (views, *views) for value in (view, *view)}, {tuple})
        self.assertIs(type(coarsest_views(ONE, ONE, 0)), tuple)


class OneByOne(unittest.TestCase):
    def draw(self, seed, many, most_states, most_pictures):
        chance = random.Random(seed)
        while many:
            pool = chance.sample(range(100), chance.randint(2, most_pictures))
            nexts = [drawn_reel(chance, most_states, pool)[0] for _ in range(2)]
            one, other = [(rows, tuple(chance.choice(pool) for _ in rows)) for rows in nexts]
            if len(set(one[1] + other[1])) <= most_pictures:
                many -= 1
                yield one, other, chance.choice([0, 0, 1, 2, 20, None])

    def test_small_reels(self):
        reels = small_reels((0, 99)) + [(nexts, (0, 50)) for nexts in [((1,), (0,)), ((1,), (1,)), ((0, 1), (0, 1))]]
        for one, other in itertools.product(reels, repeat=2):
            for gap in [0, None]:
                with self.subTest(one=one, other=other, gap=gap):
                    self.assertEqual(coarsest_views(one, other, gap), coarsest_one_by_one(one, other, gap) if (
                        not stays_open_for_ever(one, other, gap)) else ())

    def test_drawn_reels(self):
        sizes = []
        for one, other, gap in self.draw(461, 600, 6, 5):
            views = coarsest_views(one, other, gap)
            with self.subTest(one=one, other=other, gap=gap):
                if stays_open_for_ever(one, other, gap):
                    self.assertEqual(views, ())
                    continue
                self.assertEqual(views, coarsest_one_by_one(one, other, gap))
                for view in views:
                    self.assertTrue(comes_out(*viewed(one, other, view), gap))
            sizes.append(len(views[0]))
        self.assertGreater(len(sizes), 100)
        self.assertTrue(set(sizes) >= {2, 3}, set(sizes))

    def test_viewed_picture_by_picture(self):
        chance = random.Random(462)
        for one, other, _ in self.draw(463, 200, 6, 6):
            pictures = sorted(set(one[1] + other[1]))
            view = chance.choice(sorted(all_views(pictures[:5] if len(pictures) > 5 else pictures)))
            view = tuple(sorted(view + tuple((picture,) for picture in pictures[5:])))
            with self.subTest(one=one, other=other, view=view):
                self.assertEqual(viewed(one, other, view), (put_by_least(one, view), put_by_least(other, view)))


if __name__ == "__main__":
    unittest.main()

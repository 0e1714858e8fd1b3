"""Places painted anew (point 7)."""

import itertools
import random
import unittest

from dropframes.pairs import comes_out
from dropframes.paints import fewest_repaints, repainted, repaints
from helper import STILL, drawn_pool, drawn_reel, raised, recurring, small_reels, stays_open_for_ever

ONE, OTHER = (((1,), (0,)), (0, 1)), (((1,), (2,), (0,)), (0, 0, 1))
ZERO = (((0,),), (0,))
RING = (((1,), (2,), (3,), (4,), (5,), (0,)), (0, 1, 2, 3, 4, 5))
FULL = (((0, 1, 2, 3, 4, 5),) * 6, (8,) * 6)
GAPS = [0, 1, 2, 5, 20, None]


def all_places(one, other):
    """Return the places of two reels, in order."""
    return [(0, state) for state in range(len(one[0]))] + [(1, state) for state in range(len(other[0]))]


def painted(one, other, lot):
    """Return the two reels with new pictures at the places of a lot, place by place."""
    pictures = {place: (one, other)[place[0]][1][place[1]] for place in all_places(one, other)}
    bore = set(pictures.values())
    for place in lot:
        pictures[place] = next(picture for picture in range(100) if picture not in bore)
        bore.add(pictures[place])
    return tuple(
        (reel[0], tuple(pictures[number, state] for state in range(len(reel[0]))))
        for number, reel in enumerate([one, other]))


def lots_one_by_one(one, other, gap):
    """Return the lots of as few places as can be with which it surely comes out, trying lot by lot."""
    places = all_places(one, other)
    for many in range(len(places) + 1):
        lots = itertools.combinations(places, many)
        found = [lot for lot in lots if not stays_open_for_ever(*painted(one, other, lot), gap)]
        if found:
            return tuple(sorted(found))


def draw(seed, many, most_states, gaps):
    """Draw two reels and a gap, so many times."""
    chance = random.Random(seed)
    for _ in range(many):
        pool = drawn_pool(chance)
        yield drawn_reel(chance, most_states, pool), drawn_reel(chance, most_states, pool), chance.choice(gaps)


class Repainted(unittest.TestCase):
    def test_example(self):
        self.assertEqual(
            repainted(ONE, OTHER, ((0, 0), (1, 2))), ((((1,), (0,)), (2, 1)), (((1,), (2,), (0,)), (0, 0, 3))))
        self.assertEqual(raised(repainted, ONE, OTHER, ((0, 2),)), ("BadStep", {}))

    def test_empty_lot(self):
        for one, other in [(ONE, OTHER), (STILL, STILL), (FULL, RING)]:
            self.assertEqual(repainted(one, other, ()), (one, other))

    def test_least_picture_that_none_bears_or_bore(self):
        self.assertEqual(repainted(ZERO, ZERO, ((0, 0),)), ((((0,),), (1,)), ZERO))
        self.assertEqual(repainted(ZERO, ZERO, ((0, 0), (1, 0))), ((((0,),), (1,)), (((0,),), (2,))))
        self.assertEqual(repainted(STILL, STILL, ((1, 0),)), (STILL, (((0,),), (0,))))
        # The picture 0 is borne by none any more, but was.
        self.assertEqual(repainted(ZERO, STILL, ((0, 0), (1, 0))), ((((0,),), (1,)), (((0,),), (2,))))
        # Pictures between those borne come first, and states that no run comes to bear theirs, too.
        gappy = (((0,), (0,), (0,)), (0, 2, 3))
        self.assertEqual(
            repainted(gappy, (((0,),), (5,)), ((0, 1), (0, 2), (1, 0))),
            ((gappy[0], (0, 1, 4)), (((0,),), (6,))))

    def test_all_twelve_places(self):
        lot = tuple(all_places(RING, FULL))
        self.assertEqual(repainted(RING, FULL, lot), (
            (RING[0], (6, 7, 9, 10, 11, 12)), (FULL[0], (13, 14, 15, 16, 17, 18))))
        high = (FULL[0], (94, 95, 96, 97, 98, 99))
        self.assertEqual(repainted(RING, high, lot)[1][1], (12, 13, 14, 15, 16, 17))
        self.assertEqual(repainted(high, RING, lot)[0][1], (6, 7, 8, 9, 10, 11))

    def test_lots_by_chance(self):
        chance = random.Random(71)
        for one, other, _ in draw(72, 300, 6, [0]):
            places = all_places(one, other)
            lot = tuple(sorted(chance.sample(places, chance.randint(0, len(places)))))
            with self.subTest(one=one, other=other, lot=lot):
                self.assertEqual(repainted(one, other, lot), painted(one, other, lot))

    def test_wrong_lots(self):
        lots = [
            ((0, 2),), ((1, 3),), ((0, 0), (1, 3)), ((0, 2), (1, 0)), ((2, 0),), ((1, 0), (0, 0)), ((0, 1), (0, 0)),
            ((0, 0), (0, 0)), ((1, 1), (1, 1)), ((0, 0), (0, 1), (0, 0)), ((0, -1),), ((0, 0), 0), [(0, 0)], None]
        for lot in lots:
            self.assertEqual(raised(repainted, ONE, OTHER, lot), ("BadStep", {}), lot)
        for lot in [((0, 1),), ((1, 2),), ((0, 0), (0, 1), (1, 0), (1, 1), (1, 2))]:
            self.assertIsNone(raised(repainted, ONE, OTHER, lot), lot)
        # A place of the one reel is not one of the other.
        self.assertIsNone(raised(repainted, OTHER, ONE, ((0, 2),)))
        self.assertEqual(raised(repainted, OTHER, ONE, ((1, 2),)), ("BadStep", {}))

    def test_step_comes_behind_the_reels(self):
        self.assertEqual(raised(repainted, ONE, 0, ((0, 2),)), ("BadReel", {"part": "reel"}))
        self.assertEqual(raised(repainted, ONE, (((5,),), (0,)), None), ("BadReel", {"part": "nexts"}))
        self.assertEqual(raised(repainted, (((0,),), (100,)), 0, None), ("BadReel", {"part": "pictures"}))

    def test_kinds_of_values(self):
        found = repainted(ONE, OTHER, ((0, 0),))
        self.assertEqual([type(found), type(found[0]), type(found[0][0]), type(found[0][1])], [tuple] * 4)
        lots = repaints(ONE, OTHER, None)
        self.assertEqual([type(lots), type(lots[0]), type(lots[0][0])], [tuple] * 3)
        self.assertIs(type(fewest_repaints(ONE, OTHER, None)), int)


class Repaints(unittest.TestCase):
    def test_example(self):
        self.assertEqual(fewest_repaints(ONE, OTHER, None), 2)
        self.assertEqual(repaints(ONE, OTHER, None), (((0, 0), (0, 1)), ((0, 0), (1, 2))))

    def test_no_need(self):
        for one, other, gap in [(STILL, ZERO, 0), (STILL, ZERO, None), (ONE, OTHER, 0), (ZERO, RING, 4)]:
            self.assertEqual([repaints(one, other, gap), fewest_repaints(one, other, gap)], [((),), 0])

    def test_one_state_each(self):
        for gap in GAPS:
            self.assertEqual(repaints(STILL, STILL, gap), (((0, 0),), ((1, 0),)))
            self.assertEqual(fewest_repaints(STILL, STILL, gap), 1)

    def test_six_states_and_six(self):
        # By the gap None each state of the one or each of the other; by the gap 0 the first one of either.
        sides = tuple(tuple((reel, state) for state in range(6)) for reel in range(2))
        self.assertEqual([repaints(FULL, FULL, None), fewest_repaints(FULL, FULL, None)], [sides, 6])
        self.assertEqual([repaints(FULL, FULL, 20), fewest_repaints(FULL, FULL, 20)], [sides, 6])
        self.assertEqual([repaints(FULL, FULL, 0), fewest_repaints(FULL, FULL, 0)], [(((0, 0),), ((1, 0),)), 1])
        # One state of each picture: for each picture a place of one or of the other.
        found = repaints(RING, RING, None)
        self.assertEqual(found, tuple(sorted(
            tuple(sorted((reel, state) for state, reel in enumerate(row)))
            for row in itertools.product([0, 1], repeat=6))))
        self.assertEqual(repaints(RING, RING, 0), tuple(((reel, state),) for reel in [0, 1] for state in range(6)))

    def test_way_to_a_round_may_be_barred(self):
        # By the gap 0 whoever paints the state 0, which does not recur, bars the way to the round of the picture 2.
        late = (((1,), (1,)), (1, 2))
        self.assertEqual(repaints(late, late, 0), (((0, 0),), ((0, 1),), ((1, 0),), ((1, 1),)))
        self.assertEqual(repaints(late, late, 1), (((0, 1),), ((1, 1),)))

    def test_wrong_arguments(self):
        for function in [repaints, fewest_repaints]:
            self.assertEqual(raised(function, 0, 0, 21), ("BadReel", {"part": "reel"}))
            self.assertEqual(raised(function, STILL, (((1,),), (0,)), 21), ("BadReel", {"part": "nexts"}))
            self.assertEqual(raised(function, STILL, STILL, True), ("BadGap", {}))

    def check(self, one, other, gap):
        with self.subTest(one=one, other=other, gap=gap):
            lots = lots_one_by_one(one, other, gap)
            self.assertEqual(repaints(one, other, gap), lots)
            self.assertEqual(fewest_repaints(one, other, gap), len(lots[0]))
            return len(lots[0])

    def test_small_reels_lot_by_lot(self):
        reels = small_reels((0, 99))
        chance = random.Random(73)
        for one in reels:
            for other in chance.sample(reels, 9):
                for gap in [0, 1, None]:
                    self.check(one, other, gap)

    def test_drawn_reels_lot_by_lot(self):
        found = [self.check(*drawn) for drawn in draw(74, 900, 4, [0, 0, 0, 1, 1, 2, 3, 20, None])]
        self.assertTrue(set(found) >= {0, 1, 2, 3}, set(found))
        self.assertGreater(len([many for many in found if many > 0]), 200)

    def test_up_to_six_states(self):
        chance = random.Random(75)
        for one, other, gap in draw(76, 250, 6, [0, 0, 1, 2, 3, 4, 5, 20, None]):
            lots, places = repaints(one, other, gap), all_places(one, other)
            with self.subTest(one=one, other=other, gap=gap):
                self.assertEqual(lots, tuple(sorted(set(lots))))
                self.assertEqual({len(lot) for lot in lots}, {fewest_repaints(one, other, gap)})
                for lot in lots[:20]:
                    self.assertFalse(stays_open_for_ever(*painted(one, other, lot), gap))
                    self.assertTrue(comes_out(*repainted(one, other, lot), gap))
                for _ in range(5):
                    lot = tuple(sorted(chance.sample(places, len(lots[0]))))
                    self.assertIs(lot in lots, not stays_open_for_ever(*painted(one, other, lot), gap))
                if lots[0]:
                    lot = tuple(sorted(chance.sample(places, len(lots[0]) - 1)))
                    self.assertTrue(stays_open_for_ever(*painted(one, other, lot), gap))

    def test_sum_over_pictures_that_recur_in_both(self):
        found = []
        for one, other, _ in draw(77, 500, 6, [None]):
            borne = [[reel[1][state] for state in recurring(reel)] for reel in (one, other)]
            many = sum(min(borne[0].count(picture), borne[1].count(picture)) for picture in set(borne[0]))
            with self.subTest(one=one, other=other):
                self.assertEqual(fewest_repaints(one, other, None), many)
            found.append(many)
        self.assertTrue(set(found) >= {0, 1, 2, 3, 4}, set(found))


if __name__ == "__main__":
    unittest.main()

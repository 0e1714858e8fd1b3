"""How many films, and the pictures that stand in open ones (point 44)."""

import collections
import random
import unittest

from dropframes.filmcounts import count_films, count_open, kept_pictures
from dropframes.pairs import comes_out, longest_open
from helper import (
    STILL, WRONG_GAPS, WRONG_REELS, drawn_pool, drawn_reel, films_of_runs, open_films, raised, sets_behind_films,
    small_reels, wrong_numbers)

ONE, OTHER = (((1,), (0,)), (0, 1)), (((1,), (2,), (0,)), (0, 0, 1))
ZERO = (((0,),), (0,))
RING = (((1,), (2,), (3,), (4,), (5,), (0,)), (0, 1, 2, 3, 4, 5))
FULL = (((0, 1, 2, 3, 4, 5),) * 6, (0, 1, 2, 3, 4, 5))
SAME = (((0, 1, 2, 3, 4, 5),) * 6, (9,) * 6)
# Five states that pass, then a picture for ever; and a picture as long as it pleases, then four that pass.
ROW = (((1,), (2,), (3,), (4,), (5,), (5,)), (1, 1, 1, 1, 1, 2))
LATE = (((0, 1), (2,), (3,), (4,), (5,), (5,)), (1, 2, 2, 2, 2, 3))
GAPS = [0, 1, 2, 5, 20, None]


def counted_by_sets(one, other, gap, many):
    """Return how many films of so many frames both reels can show, the films of one frame more out of the shorter."""
    graph = sets_behind_films(one, other, gap)
    films = collections.Counter({(None, None): 1})
    for _ in range(many):
        longer = collections.Counter()
        for both, times in films.items():
            for after in graph[both].values():
                if frozenset() not in after:
                    longer[after] += times
        films = longer
    return sum(films.values())


def kept_by_sets(one, other, gap):
    graph = sets_behind_films(one, other, gap)
    return tuple(sorted({
        picture for both in graph for picture, after in graph[both].items() if frozenset() not in after}))


def draw(seed, many, most_states, gaps=(0, 0, 1, 2, 3, 20, None)):
    chance = random.Random(seed)
    for _ in range(many):
        pool = drawn_pool(chance)
        one, other = [
            dense_reel(chance, most_states, pool) if chance.random() < 0.3 else drawn_reel(chance, most_states, pool)
            for _ in range(2)]
        yield one, other, chance.choice(gaps)


def dense_reel(chance, most_states, pool):
    """Draw a reel of which many states may come next to one, so that it can show many films."""
    many = chance.randint(1, most_states)
    nexts = tuple(tuple(sorted(chance.sample(range(many), chance.randint((many + 1) // 2, many)))) for _ in range(many))
    return nexts, tuple(chance.choice(pool[:3]) for _ in range(many))


class Counts(unittest.TestCase):
    def test_example(self):
        found = [
            count_films(ONE, 0, 3), count_films(ONE, 1, 3), [count_open(ONE, OTHER, 0, many) for many in [0, 1, 2]],
            kept_pictures(ONE, OTHER, 0), kept_pictures(ONE, OTHER, 1)]
        self.assertEqual(found, [1, 8, [1, 1, 0], (0,), (0, 1)])

    def test_no_frame(self):
        for gap in GAPS:
            for reel in [STILL, RING, FULL, ROW]:
                self.assertEqual([count_films(reel, gap, 0), count_open(reel, STILL, gap, 0)], [1, 1])

    def test_one_state(self):
        for gap in GAPS:
            for many in [0, 1, 2, 99, 100]:
                self.assertEqual([count_films(STILL, gap, many), count_open(STILL, STILL, gap, many)], [1, 1])
                self.assertEqual(count_open(STILL, ZERO, gap, many), 1 if many == 0 else 0)
            self.assertEqual([kept_pictures(STILL, STILL, gap), kept_pictures(STILL, ZERO, gap)], [(7,), ()])

    def test_six_states(self):
        for many in [1, 2, 3, 30, 100]:
            # Ahead of the first frame none is left out by the gap 0.
            self.assertEqual(count_films(FULL, 0, many), 6 ** (many - 1))
            self.assertEqual(count_films(FULL, 1, many), 6 ** many)
            self.assertEqual([count_films(RING, gap, many) for gap in range(6)], [k ** many for k in range(1, 7)])
            self.assertEqual([count_films(RING, gap, many) for gap in [6, 20, None]], [6 ** many] * 3)
            self.assertEqual([count_open(RING, FULL, gap, many) for gap in [0, 5, None]], [1, 6 ** many, 6 ** many])
            self.assertEqual([count_films(SAME, gap, many) for gap in GAPS], [1] * 6)

    def test_hundred_frames_of_known_numbers(self):
        # One 0 at least and then 1 for ever; by a gap the film may begin with 1.
        step = (((0, 1), (1,)), (0, 1))
        self.assertEqual([count_films(step, 0, many) for many in [1, 2, 3, 100]], [1, 2, 3, 100])
        self.assertEqual([count_films(step, 1, many) for many in [0, 1, 2, 3, 100]], [1, 2, 3, 4, 101])
        # No 1 behind a 1: as many as the sums of the two numbers before.
        rabbits = [1, 2]
        while len(rabbits) < 100:
            rabbits.append(rabbits[-2] + rabbits[-1])
        reel = (((0, 1), (0,)), (0, 1))
        self.assertEqual([count_films(reel, 0, many) for many in range(1, 101)], rabbits)
        self.assertEqual(count_open(reel, step, 0, 100), 2)
        self.assertEqual(count_open(step, step, None, 100), 101)

    def test_unlike_runs_of_one_film_count_once(self):
        # Each film of 0 and 1 that begins with 0, by two runs and more.
        twice = (((0, 1, 2, 3),) * 4, (0, 0, 1, 1))
        self.assertEqual([count_films(twice, 0, many) for many in [1, 2, 3, 100]], [1, 2, 4, 2 ** 99])
        self.assertEqual([count_open(twice, twice, 0, many) for many in [1, 2, 3, 100]], [1, 2, 4, 2 ** 99])

    def test_open_ones_that_end(self):
        for gap in GAPS:
            counts = [count_open(ROW, LATE, gap, many) for many in range(12)]
            self.assertEqual(counts, [count_open(LATE, ROW, gap, many) for many in range(12)])
            self.assertTrue(all(counts[:10]))
            self.assertEqual(counts[10:], [0, 0])
            self.assertEqual(count_open(ROW, LATE, gap, 100), 0)
        # A film is of 1s and then 2s, five of 1 at most and four of 2; by the gap 0 the first reel begins with all 1s.
        self.assertEqual(
            [count_open(ROW, LATE, None, many) for many in range(12)], [1, 2, 3, 4, 5, 5, 4, 3, 2, 1, 0, 0])
        self.assertEqual([count_open(ROW, LATE, 0, many) for many in range(12)], [1] * 10 + [0, 0])
        self.assertEqual([kept_pictures(ROW, LATE, gap) for gap in GAPS], [(1, 2)] * 6)

    def test_kept_pictures(self):
        # A picture in both reels, which no film that both can show comes to.
        one, other = (((1,), (2,), (2,)), (0, 1, 5)), (((1,), (2,), (2,)), (0, 2, 5))
        self.assertEqual([kept_pictures(one, other, gap) for gap in [0, 1, None]], [(0,), (0, 5), (0, 5)])
        self.assertEqual([kept_pictures(RING, ZERO, gap) for gap in GAPS], [(0,)] * 6)
        self.assertEqual([kept_pictures(RING, (((0,),), (5,)), gap) for gap in [0, 4, 5, None]], [(), (), (5,), (5,)])
        # A state that no run comes to keeps no picture.
        lone = (((0,), (1,)), (7, 8))
        self.assertEqual([kept_pictures(lone, lone, gap) for gap in GAPS], [(7,)] * 6)
        self.assertEqual(kept_pictures(FULL, FULL, 0), (0, 1, 2, 3, 4, 5))
        self.assertEqual(kept_pictures((((0,),), (99,)), (((0,),), (99,)), 0), (99,))

    def test_kinds_of_values(self):
        self.assertEqual(
            [type(value) for value in [count_films(ONE, 0, 0), count_open(ONE, OTHER, 0, 9), count_films(FULL, 0, 9)]],
            [int] * 3)
        self.assertEqual([type(kept_pictures(ONE, other, 0)) for other in [OTHER, STILL]], [tuple] * 2)

    def test_wrong_arguments(self):
        for value in wrong_numbers(100):
            self.assertEqual(raised(count_films, STILL, 0, value), ("BadNumber", {}), value)
            self.assertEqual(raised(count_open, STILL, ONE, None, value), ("BadNumber", {}), value)
        for value in WRONG_GAPS:
            self.assertEqual(raised(count_films, STILL, value, 101), ("BadGap", {}), value)
            self.assertEqual(raised(count_open, STILL, ONE, value, True), ("BadGap", {}), value)
            self.assertEqual(raised(kept_pictures, STILL, ONE, value), ("BadGap", {}), value)
        for value, part in WRONG_REELS:
            self.assertEqual(raised(count_films, value, 21, -1), ("BadReel", {"part": part}), value)
            self.assertEqual(raised(count_open, value, 0, 21, -1), ("BadReel", {"part": part}), value)
            self.assertEqual(raised(count_open, ONE, value, 21, -1), ("BadReel", {"part": part}), value)
            self.assertEqual(raised(kept_pictures, value, 0, 21), ("BadReel", {"part": part}), value)


class FilmByFilm(unittest.TestCase):
    def test_run_by_run(self):
        for reel in small_reels((0, 99)):
            for gap in [0, 1, None]:
                for many in [0, 1, 2, 3]:
                    wanted = len(films_of_runs(reel, gap, many)) if many > 0 else 1
                    with self.subTest(reel=reel, gap=gap, many=many):
                        self.assertEqual(count_films(reel, gap, many), wanted)

    def test_small_reels_against_one_another(self):
        reels = small_reels((0, 99))
        for gap in [0, 1, None]:
            films = {reel: [set(films_of_runs(reel, gap, many)) for many in [1, 2, 3]] for reel in reels}
            for one in reels:
                for other in reels:
                    both = [len(first & second) for first, second in zip(films[one], films[other])]
                    with self.subTest(one=one, other=other, gap=gap):
                        self.assertEqual([count_open(one, other, gap, many) for many in [1, 2, 3]], both)

    def test_drawn_reels(self):
        unlike = set()
        for one, other, gap in draw(441, 400, 6):
            for many in [1, 2, 4]:
                films = open_films(one, other, gap, many)
                with self.subTest(one=one, other=other, gap=gap, many=many):
                    self.assertEqual(count_open(one, other, gap, many), len(films))
                    self.assertEqual(count_films(one, gap, many), len(open_films(one, one, gap, many)))
                unlike.add(len(films))
        self.assertGreater(len(unlike), 9)

    def test_up_to_hundred_frames(self):
        for one, other, gap in draw(442, 150, 6):
            for many in [7, 30, 99, 100]:
                with self.subTest(one=one, other=other, gap=gap, many=many):
                    self.assertEqual(count_open(one, other, gap, many), counted_by_sets(one, other, gap, many))
                    self.assertEqual(count_films(one, gap, many), counted_by_sets(one, one, gap, many))

    def test_kept_pictures(self):
        unlike = set()
        for one, other, gap in draw(443, 600, 6):
            with self.subTest(one=one, other=other, gap=gap):
                self.assertEqual(kept_pictures(one, other, gap), kept_by_sets(one, other, gap))
            unlike.add(len(kept_pictures(one, other, gap)))
        self.assertTrue(unlike >= {0, 1, 2, 3}, unlike)


class Sentence(unittest.TestCase):
    """It surely comes out exactly if count_open is 0 for some many, and then for all from longest_open and 1 on."""

    def check(self, one, other, gap):
        with self.subTest(one=one, other=other, gap=gap):
            counts = [count_open(one, other, gap, many) for many in range(101)]
            self.assertIs(comes_out(one, other, gap), 0 in counts)
            longest = longest_open(one, other, gap)
            self.assertEqual(longest, counts.index(0) - 1 if 0 in counts else None)
            if longest is not None:
                self.assertEqual(counts[longest + 1:], [0] * (100 - longest))
                self.assertEqual([many for many in range(longest + 1) if counts[many] == 0], [])
        return longest

    def test_drawn_reels(self):
        lengths = [self.check(*drawn) for seed, most in [(444, 3), (445, 6)] for drawn in draw(seed, 120, most)]
        self.assertTrue(set(lengths) >= {None, 0, 1, 2}, set(lengths))
        self.assertTrue(40 < lengths.count(None) < 200, lengths.count(None))

    def test_longest_ones(self):
        self.assertEqual([self.check(ROW, LATE, gap) for gap in GAPS], [9] * 6)


if __name__ == "__main__":
    unittest.main()

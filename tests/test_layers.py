"""What holds over the whole program: its layers tell the same of the same reels."""

import itertools
import random
import unittest

from dropframes.benches import Bench
from dropframes.desks import Desk
from dropframes.filmcounts import count_films, count_open, kept_pictures
from dropframes.films import can_show, could_be, told_at
from dropframes.means import chance_told, mean_told
from dropframes.pairs import (
    all_come_out, comes_out, endless_film, least_gap, longest_open, most_open, open_film, ranks, shows_endless_film,
    shows_open_film)
from dropframes.paints import fewest_repaints, repainted, repaints
from dropframes.reels import passing, recurring_pictures
from dropframes.sames import are_same, covers, folded, least_gap_alike, parting_film
from dropframes.texts import film_text, read_film, read_reel, read_reels, reel_text, reels_text, tale
from dropframes.views import coarsest_views, viewed
from helper import drawn_pool, drawn_reel, raised


def draw(seed, many, most_states):
    chance = random.Random(seed)
    for _ in range(many):
        pool = drawn_pool(chance)[-chance.choice([2, 3, 6]):]
        one, other = drawn_reel(chance, most_states, pool), drawn_reel(chance, most_states, pool)
        if chance.random() < 0.2:
            other = folded(one)
        yield one, other, chance.choice([0, 0, 1, 2, 3, 20, None])


class Layers(unittest.TestCase):
    def test_longest_open_and_counts(self):
        for one, other, gap in draw(1, 300, 6):
            longest = longest_open(one, other, gap)
            with self.subTest(one=one, other=other, gap=gap):
                if longest is None:
                    self.assertGreater(count_open(one, other, gap, 100), 0)
                    film, again = endless_film(one, other, gap)
                    self.assertTrue(set(film + again) <= set(kept_pictures(one, other, gap)))
                    continue
                self.assertGreater(count_open(one, other, gap, longest), 0)
                self.assertEqual(count_open(one, other, gap, longest + 1), 0)
                self.assertEqual(kept_pictures(one, other, gap), tuple(sorted({
                    one[1][state] for state, _, _ in ranks(one, other, gap)})))
                if gap is None:
                    self.assertLessEqual(longest, passing(one) + passing(other))

    def test_recurring_pictures(self):
        for one, other, _ in draw(2, 300, 6):
            with self.subTest(one=one, other=other):
                both = set(recurring_pictures(one)) & set(recurring_pictures(other))
                self.assertIs(comes_out(one, other, None), not both)
                self.assertIs(least_gap(one, other) is None, not both)

    def test_same_films_and_counts(self):
        sames = 0
        for one, other, gap in draw(3, 400, 6):
            with self.subTest(one=one, other=other, gap=gap):
                same = are_same(one, other, gap)
                film = parting_film(one, other, gap)
                many = 0 if film is None else len(film)
                # As many films of one and of the other as of both, of all that are shorter than one that parts them.
                for frames in [0, 1, 2, 3, 50, 100] if same else range(many):
                    counts = [count_films(one, gap, frames), count_films(other, gap, frames)]
                    self.assertEqual(counts, [count_open(one, other, gap, frames)] * 2)
                if not same:
                    counts = {count_films(one, gap, many), count_films(other, gap, many)}
                    self.assertGreater(max(counts), count_open(one, other, gap, many))
            sames += same
        self.assertTrue(60 < sames < 340, sames)

    def test_parting_films(self):
        for one, other, gap in draw(4, 400, 6):
            film = parting_film(one, other, gap)
            with self.subTest(one=one, other=other, gap=gap, film=film):
                self.assertEqual(film is None, covers(one, other, gap) and covers(other, one, gap))
                if film is not None:
                    self.assertEqual(len(could_be((one, other), gap, film)), 1)
                    self.assertEqual(could_be((one, other), gap, film[:-1]), (0, 1))
                    self.assertEqual(told_at((one, other), gap, film), len(film))
                    self.assertIs(can_show(one, gap, film), not can_show(other, gap, film))

    def test_same_films_come_never_out(self):
        for one, other, gap in draw(5, 300, 5):
            with self.subTest(one=one, other=other, gap=gap):
                if are_same(one, other, gap):
                    self.assertIs(comes_out(one, other, gap), False)
                least = least_gap_alike(one, other)
                self.assertIs(least is None, not are_same(one, other, None))
                if are_same(one, other, None):
                    self.assertEqual(chance_told(one, other, (1, 2), 9), (0, 1))
                    self.assertIsNone(mean_told(one, other, (1, 2)))
                elif not covers(other, one, None):
                    film = parting_film(one, other, None)
                    if can_show(one, None, film):
                        self.assertGreater(chance_told(one, other, (1, 2), len(film))[0], 0)

    def test_folded_reels(self):
        for one, other, gap in draw(6, 200, 6):
            with self.subTest(one=one, other=other, gap=gap):
                self.assertIs(are_same(one, folded(one), gap), True)
                self.assertEqual(longest_open(folded(one), folded(other), gap), longest_open(one, other, gap))
                self.assertEqual(count_open(folded(one), folded(other), gap, 7), count_open(one, other, gap, 7))
                self.assertEqual(kept_pictures(folded(one), folded(other), gap), kept_pictures(one, other, gap))

    def test_repainted_and_viewed(self):
        for one, other, gap in draw(7, 150, 4):
            with self.subTest(one=one, other=other, gap=gap):
                out = comes_out(one, other, gap)
                self.assertIs(fewest_repaints(one, other, gap) == 0, out)
                fresh = repainted(one, other, repaints(one, other, gap)[0])
                self.assertIs(comes_out(*fresh, gap), True)
                if len(set(one[1] + other[1])) <= 7:
                    views = coarsest_views(one, other, gap)
                    self.assertIs(len(views) > 0, out)
                    for view in views:
                        self.assertIs(comes_out(*viewed(one, other, view), gap), True)

    def test_several_reels(self):
        for one, other, gap in draw(8, 150, 4):
            reels = (one, other, folded(one))
            with self.subTest(reels=reels, gap=gap):
                self.assertIs(all_come_out(reels, gap), False)
                self.assertIsNone(most_open(reels, gap))
                self.assertEqual(most_open((one, other), gap), longest_open(one, other, gap))
                self.assertEqual(read_reels(reels_text(reels)), reels)
                self.assertEqual(tuple(read_reel(reel_text(reel)) for reel in reels), reels)

    def test_any_values(self):
        for one, other, gap in draw(9, 150, 5):
            with self.subTest(one=one, other=other, gap=gap):
                film, endless = open_film(one, other, gap), endless_film(one, other, gap)
                self.assertIs(shows_open_film(one, other, gap, film), True)
                self.assertIs(shows_endless_film(one, other, gap, endless), True)
                if film is not None:
                    self.assertEqual(could_be((one, other), gap, film), (0, 1))
                    # A frame more leaves one of them at most.
                    for picture in sorted(set(one[1] + other[1])):
                        self.assertLess(len(could_be((one, other), gap, film + (picture,))), 2)

    def test_bench_and_desk(self):
        chance = random.Random(10)
        for one, other, gap in draw(10, 150, 6):
            reels = (one, other, folded(other))
            bench, desk = Bench(reels, gap), Desk(reels, gap)
            with self.subTest(reels=reels, gap=gap):
                for _ in range(12):
                    picture = chance.choice(bench.may_come())
                    left = bench.see(picture)
                    self.assertEqual(desk.do(f"see {picture}"), " ".join(map(str, left)))
                    self.assertEqual(left, could_be(reels, gap, bench.film))
                    self.assertEqual(read_film(desk.text()), bench.film)
                    self.assertEqual(desk.text(), film_text(bench.film))
                    last = tale(reels, gap, bench.film).split("\n")[-2]
                    self.assertEqual(last.split(": ")[1], desk.do("left"))
                    told = told_at(reels, gap, bench.film)
                    self.assertEqual(desk.do("out") != "not yet", told is not None)

    def test_counted_frame_by_frame_on_a_bench(self):
        for one, other, gap in draw(11, 60, 4):
            with self.subTest(one=one, other=other, gap=gap):
                pictures = sorted(set(one[1] + other[1]))
                counts = [0, 0, 0]
                for film in itertools.product(pictures, repeat=3):
                    bench = Bench((one, other), gap)
                    errors = [raised(bench.see, picture) for picture in film]
                    if errors == [None] * 3:
                        for number in bench.left:
                            counts[number] += 1
                        counts[2] += len(bench.left) == 2
                self.assertEqual(counts, [
                    count_films(one, gap, 3), count_films(other, gap, 3), count_open(one, other, gap, 3)])


if __name__ == "__main__":
    unittest.main()

"""What the document says between asterisks in points 4 and 5, film by film and run by run."""

import random
import unittest

from dropframes.pairs import (
    all_come_out, comes_out, endless_film, least_gap, longest_open, most_open, open_film, ranks, shows_endless_film,
    shows_open_film)
from dropframes.reels import passing, recurring_pictures
from helper import drawn_pool, drawn_reel, last_states, open_films, passed, recurring, small_reels


def longest_by_films(one, other, gap, first=0, twin=0):
    """Return the greatest number of frames of an open film, None if some have more frames than there are pairs.

    A film with more frames than pairs comes by a pair again, and so there is no end of open ones.
    """
    most = len(one[0]) * len(other[0])
    for many in range(1, most + 2):
        if not open_films(one, other, gap, many, first, twin):
            return many - 1
    return None


def stays_open(one, other, gap, film):
    return bool(last_states(one, gap, film) and last_states(other, gap, film))


def pairs_by_films(one, other, gap, longest):
    """Return the pairs at the last frame of the open films, film by film."""
    return sorted({
        (state, twin) for many in range(1, longest + 1) for film in open_films(one, other, gap, many)
        for state in last_states(one, gap, film) for twin in last_states(other, gap, film)})


def rank_by_films(one, other, gap, state, twin):
    """Return the greatest number of frames that stay open from a pair on, its own counted."""
    pictures = sorted(set(one[1]) & set(other[1]))
    rank, shown = 0, [()]
    while shown:
        rank += 1
        longer = [film + (picture,) for film in shown for picture in pictures]
        shown = [film for film in longer if last_from(one, gap, state, film) and last_from(other, gap, twin, film)]
    return rank


def last_from(reel, gap, state, film):
    """Return the states at the last frame of a film shown behind a frame at a state."""
    return {last for after in reel[0][state] for last in last_states(reel, gap, film, after)}


class SmallReels(unittest.TestCase):
    """All reels of one state or two with two pictures, against one another."""

    def test_films_one_by_one(self):
        reels = small_reels((0, 99))
        lengths = []
        for gap in [0, 1, None]:
            shown = {reel: self.films(reel, gap) for reel in reels}
            for one in reels:
                for other in reels:
                    both = shown[one] & shown[other]
                    most = len(one[0]) * len(other[0])
                    longest = max(len(film) for film in both)
                    wanted = None if longest > most else longest
                    with self.subTest(one=one, other=other, gap=gap):
                        self.assertEqual(longest_open(one, other, gap), wanted)
                        self.assertIs(comes_out(one, other, gap), wanted is not None)
                        self.assertEqual(open_film(one, other, gap) in both, wanted is not None)
                        some = sorted(shown[one] | shown[other])
                        self.assertEqual(
                            [film for film in some if shows_open_film(one, other, gap, film)],
                            [film for film in sorted(both) if len(film) == wanted])
                    lengths.append(wanted)
        self.assertEqual(set(lengths), {None, 0, 1, 2})

    def films(self, reel, gap):
        """Return the films of at most five frames that a reel can show: as many as there are pairs, and one more."""
        found, longest = {()}, [()]
        for _ in range(5):
            longest = [film + (picture,) for film in longest for picture in (0, 99)]
            longest = [film for film in longest if last_states(reel, gap, film)]
            found.update(longest)
        return found


class DrawnReels(unittest.TestCase):
    def draw(self, seed, many, most_states, gaps):
        chance = random.Random(seed)
        for _ in range(many):
            pool = drawn_pool(chance)
            yield drawn_reel(chance, most_states, pool), drawn_reel(chance, most_states, pool), chance.choice(gaps)

    def test_point_4_recurring_pictures(self):
        outs = 0
        for one, other, _ in self.draw(41, 800, 5, [None]):
            with self.subTest(one=one, other=other):
                shared = {one[1][state] for state in recurring(one)} & {other[1][state] for state in recurring(other)}
                self.assertIs(comes_out(one, other, None), not shared)
                self.assertEqual(shared, set(recurring_pictures(one)) & set(recurring_pictures(other)))
                if not shared:
                    outs += 1
                    longest = longest_open(one, other, None)
                    self.assertLessEqual(longest, passed(one) + passed(other))
                    self.assertEqual(passing(one) + passing(other), passed(one) + passed(other))
        self.assertTrue(150 < outs < 650, outs)

    def test_point_5_films_one_by_one(self):
        lengths = []
        for one, other, gap in self.draw(51, 500, 3, [0, 1, 2, 3, 20, None]):
            longest = longest_by_films(one, other, gap)
            with self.subTest(one=one, other=other, gap=gap):
                self.assertEqual(longest_open(one, other, gap), longest)
                self.assertIs(comes_out(one, other, gap), longest is not None)
                self.check_films(one, other, gap, longest)
            lengths.append(longest)
        self.assertTrue(set(lengths) >= {None, 0, 1, 2})
        self.assertTrue(100 < lengths.count(None) < 400)

    def test_point_5_up_to_six_states(self):
        lengths = []
        for one, other, gap in self.draw(52, 700, 6, [0, 0, 1, 2, 3, 4, 5, 6, 20, None]):
            with self.subTest(one=one, other=other, gap=gap):
                longest = longest_open(one, other, gap)
                self.check_films(one, other, gap, longest)
                if longest is not None:
                    self.assertTrue(open_films(one, other, gap, longest))
                    self.assertFalse(open_films(one, other, gap, longest + 1))
            lengths.append(longest)
        self.assertTrue(set(lengths) >= {None, 0, 1, 2, 3, 4, 5})
        self.assertTrue(150 < lengths.count(None) < 550)

    def check_films(self, one, other, gap, longest):
        film, endless = open_film(one, other, gap), endless_film(one, other, gap)
        self.assertIs(shows_open_film(one, other, gap, film), True)
        self.assertIs(shows_endless_film(one, other, gap, endless), True)
        if longest is None:
            self.assertIsNone(film)
            self.assertGreater(len(endless[1]), 0)
            # So often again that there are more frames than pairs: some pair comes again, at one place of again.
            self.assertTrue(stays_open(one, other, gap, endless[0] + endless[1] * 37))
        else:
            self.assertIsNone(endless)
            self.assertEqual(len(film), longest)
            self.assertTrue(stays_open(one, other, gap, film))

    def test_ranks_film_by_film(self):
        many = 0
        for one, other, gap in self.draw(53, 400, 5, [0, 0, 1, 2, 3, 20, None]):
            longest = longest_open(one, other, gap)
            with self.subTest(one=one, other=other, gap=gap):
                if longest is None:
                    self.assertIsNone(ranks(one, other, gap))
                    continue
                self.assertEqual(ranks(one, other, gap), tuple(
                    (state, twin, rank_by_films(one, other, gap, state, twin))
                    for state, twin in pairs_by_films(one, other, gap, longest)))
                many += len(ranks(one, other, gap)) > 1
        self.assertGreater(many, 60)

    def test_endless_films_again_and_again(self):
        chance = random.Random(54)
        good = 0
        for one, other, gap in self.draw(54, 600, 4, [0, 0, 1, 2, None]):
            if comes_out(one, other, gap):
                continue
            pictures = sorted(set(one[1]) & set(other[1]))
            film = tuple(chance.choice(pictures) for _ in range(chance.randint(0, 3)))
            again = tuple(chance.choice(pictures) for _ in range(chance.randint(1, 3)))
            with self.subTest(one=one, other=other, gap=gap, film=film, again=again):
                # A reel of at most 4 states that can show again 5 times behind the film has come by a state again.
                wanted = stays_open(one, other, gap, film + again * 5)
                self.assertIs(shows_endless_film(one, other, gap, (film, again)), wanted)
            good += wanted
        self.assertGreater(good, 100)

    def test_least_gap(self):
        found = []
        for one, other, _ in self.draw(61, 500, 6, [None]):
            with self.subTest(one=one, other=other):
                bad = [gap for gap in [0, 1, 2, 3, 4, 5, 6, 19, 20, None] if not comes_out(one, other, gap)]
                self.assertEqual(least_gap(one, other), bad[0] if bad else None)
                # Who lets more by lets by all that who lets less by does.
                self.assertEqual(None in bad, bool(bad))
                found.append(least_gap(one, other))
        self.assertTrue(set(found) >= {None, 0, 1, 2})

    def test_several_reels(self):
        chance = random.Random(62)
        outs = 0
        for _ in range(300):
            pool = drawn_pool(chance) + drawn_pool(chance)
            reels = tuple(drawn_reel(chance, 4, pool) for _ in range(chance.randint(2, 6)))
            gap = chance.choice([0, 0, 1, 20, None])
            lengths = [longest_open(one, other, gap) for k, one in enumerate(reels) for other in reels[:k]]
            with self.subTest(reels=reels, gap=gap):
                self.assertIs(all_come_out(reels, gap), None not in lengths)
                self.assertEqual(most_open(reels, gap), None if None in lengths else max(lengths))
            outs += None not in lengths
        self.assertTrue(50 < outs < 250, outs)


if __name__ == "__main__":
    unittest.main()

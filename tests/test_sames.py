"""Reels with the same films, and reels folded (points 42 and 43)."""

import itertools
import random
import unittest

from dropframes.films import can_show
from dropframes.pairs import comes_out
from dropframes.sames import are_same, covers, folded, least_gap_alike, parting_film
from helper import (
    STILL, drawn_pool, drawn_reel, last_states, raised, runs, sets_behind_films, small_reels, states_at_frame,
    stays_open_for_ever)

ONE, OTHER = (((1,), (0,)), (0, 1)), (((0, 1), (0, 1)), (0, 1))
ZERO = (((0,),), (0,))
RING = (((1,), (2,), (3,), (4,), (5,), (0,)), (0, 1, 2, 3, 4, 5))
FULL = (((0, 1, 2, 3, 4, 5),) * 6, (0, 1, 2, 3, 4, 5))
GAPS = [0, 1, 2, 3, 4, 5, 6, 20, None]


def films_shown(reel, gap, many, pictures):
    """Return the films of at most so many frames that a reel can show, film by film."""
    shown = {(): None}
    longest = {(): None}
    for _ in range(many):
        longer = {
            film + (picture,): states_at_frame(reel, gap, longest[film], picture)
            for film in longest for picture in pictures}
        longest = {film: longer[film] for film in longer if longer[film]}
        shown.update(longest)
    return set(shown)


def parted_by_sets(one, other, gap):
    """Return (whether just the first reel can show some film, whether just the second one), set of states by set."""
    seen = sets_behind_films(one, other, gap)
    none = frozenset()
    return any(both[1] == none != both[0] for both in seen), any(both[0] == none != both[1] for both in seen)


def split(chance, reel):
    """Return a reel of the same films: a state twice over, and the states but the first one in another sequence."""
    nexts, pictures = [list(row) for row in reel[0]], list(reel[1])
    if len(nexts) < 6:
        twin = chance.randrange(len(nexts))
        nexts.append(list(nexts[twin]))
        pictures.append(pictures[twin])
        for row in nexts:
            if twin in row:
                row += [[], [len(nexts) - 1]][chance.random() < 0.6]
                if len(nexts) - 1 in row and chance.random() < 0.3:
                    row.remove(twin)
    sequence = [0] + chance.sample(range(1, len(nexts)), len(nexts) - 1)
    return (
        tuple(tuple(sorted(sequence.index(after) for after in nexts[state])) for state in sequence),
        tuple(pictures[state] for state in sequence))


def changed(chance, reel):
    """Return a reel with one state more or less that may come next to another one."""
    nexts = [list(row) for row in reel[0]]
    row = chance.choice(nexts)
    state = chance.randrange(len(nexts))
    if state not in row:
        row.append(state)
    elif len(row) > 1:
        row.remove(state)
    return tuple(tuple(sorted(row)) for row in nexts), reel[1]


def draw(seed, many, most_states):
    """Draw two reels, so many times: of the same films, of mostly the same ones, or by themselves."""
    chance = random.Random(seed)
    for _ in range(many):
        pool = drawn_pool(chance)[-chance.choice([2, 3, 6]):]
        one = drawn_reel(chance, most_states, pool)
        kind = chance.choice(["split", "changed", "changed", "own"])
        other = drawn_reel(chance, most_states, pool) if kind == "own" else one
        if kind != "own" and len(one[0]) < most_states:
            other = split(chance, one)
        if kind == "changed":
            other = changed(chance, other)
        yield (one, other) if chance.random() < 0.5 else (other, one)


class Sames(unittest.TestCase):
    def test_example(self):
        found = [
            covers(OTHER, ONE, 0), covers(ONE, OTHER, 0), parting_film(ONE, OTHER, 0), parting_film(ONE, OTHER, None),
            are_same(ONE, OTHER, 1), least_gap_alike(ONE, OTHER)]
        self.assertEqual(found, [True, False, (0, 0), None, True, 1])

    def test_one_state_each(self):
        for gap in GAPS:
            self.assertEqual([covers(STILL, STILL, gap), are_same(STILL, STILL, gap)], [True, True])
            self.assertIsNone(parting_film(STILL, STILL, gap))
            self.assertEqual([covers(STILL, ZERO, gap), covers(ZERO, STILL, gap)], [False, False])
            self.assertIs(are_same(STILL, ZERO, gap), False)
            # The first one by its pictures, whichever reel can show it.
            self.assertEqual([parting_film(STILL, ZERO, gap), parting_film(ZERO, STILL, gap)], [(0,), (0,)])
        self.assertEqual([least_gap_alike(STILL, STILL), least_gap_alike(STILL, ZERO)], [0, None])

    def test_six_states_and_six(self):
        self.assertEqual([covers(FULL, RING, gap) for gap in GAPS], [True] * 9)
        self.assertEqual([covers(RING, FULL, gap) for gap in GAPS], [False] * 5 + [True] * 4)
        self.assertEqual([are_same(RING, FULL, gap) for gap in GAPS], [False] * 5 + [True] * 4)
        self.assertEqual(
            [parting_film(RING, FULL, gap) for gap in GAPS], [(0, 0), (2,), (3,), (4,), (5,), None, None, None, None])
        self.assertEqual([least_gap_alike(RING, FULL), least_gap_alike(FULL, RING)], [5, 5])
        self.assertEqual([least_gap_alike(RING, RING), least_gap_alike(FULL, FULL)], [0, 0])

    def test_shortest_ahead_of_first_by_pictures(self):
        one = (((1, 2), (1,), (2,)), (0, 3, 4))
        self.assertEqual(parting_film(one, (((1, 2), (1,), (2,)), (0, 3, 5)), 0), (0, 4))
        self.assertEqual(parting_film(one, (((1, 2), (1,), (2,)), (0, 5, 4)), 0), (0, 3))
        self.assertEqual(parting_film((((1,), (2,), (2,)), (4, 4, 9)), (((1,), (2,), (2,)), (4, 4, 1)), 0), (4, 4, 1))
        self.assertEqual(parting_film((((0,),), (99,)), (((0, 1), (1,)), (99, 98)), 0), (99, 98))
        self.assertEqual(parting_film((((0,),), (99,)), (((0, 1), (1,)), (99, 98)), 1), (98,))

    def test_states_that_no_run_comes_to_tell_nothing(self):
        for gap in GAPS:
            self.assertIs(are_same(STILL, (((0,), (0, 1)), (7, 8)), gap), True)

    def test_long_parting_film(self):
        # Both show five frames of the picture 0; then the one may begin anew, the other one has the picture 1 to show.
        five = (((1,), (2,), (3,), (4,), (0, 5), (5,)), (0, 0, 0, 0, 0, 1))
        six = (((1,), (2,), (3,), (4,), (5,), (0, 5)), (0, 0, 0, 0, 0, 1))
        self.assertEqual(parting_film(five, six, 0), (0,) * 6)
        self.assertEqual([covers(six, five, 0), covers(five, six, 0)], [False, False])
        one = (((5,), (1, 4, 5), (0, 1, 2, 5), (1,), (0, 1, 2, 4, 5), (4,)), (1, 1, 0, 1, 0, 1))
        other = (((5,), (0, 3), (1, 2, 3), (0, 1, 3), (1, 2, 4, 5), (4,)), (1, 1, 1, 0, 0, 1))
        self.assertEqual(parting_film(one, other, 0), (1, 1, 0, 1, 1, 0, 1, 1, 1, 1))
        self.assertEqual(parting_by_sets(one, other, 0), (1, 1, 0, 1, 1, 0, 1, 1, 1, 1))
        # A row of states, each as long as it pleases, and the picture 1 at its end.
        row = (((0, 1), (1, 2), (2, 3), (3, 4), (4, 5), (5,)), (0,) * 5 + (1,))
        self.assertEqual([parting_film(row, ZERO, gap) for gap in [0, 1, 2, 3, 4, 5]], [
            (0,) * 5 + (1,), (0, 0, 1), (0, 1), (0, 1), (0, 1), (1,)])
        self.assertEqual([covers(row, ZERO, 0), covers(ZERO, row, 0)], [True, False])

    def test_wrong_arguments(self):
        for function in [covers, are_same, parting_film]:
            self.assertEqual(raised(function, 0, 0, 21), ("BadReel", {"part": "reel"}))
            self.assertEqual(raised(function, STILL, (((1,),), (0,)), 21), ("BadReel", {"part": "nexts"}))
            self.assertEqual(raised(function, STILL, STILL, 21), ("BadGap", {}))
        self.assertEqual(raised(least_gap_alike, STILL, (((0,),), (100,))), ("BadReel", {"part": "pictures"}))
        self.assertEqual(raised(least_gap_alike, (0, 0), 0), ("BadReel", {"part": "nexts"}))

    def test_kinds_of_values(self):
        self.assertEqual([type(covers(ONE, OTHER, 0)), type(are_same(ONE, OTHER, 0))], [bool, bool])
        self.assertEqual([type(parting_film(ONE, OTHER, 0)), type(least_gap_alike(ONE, OTHER))], [tuple, int])


def parting_by_films(one, other, gap, many):
    """Return the first of the shortest films of at most so many frames that just one can show, film by film."""
    pictures = sorted(set(one[1]) | set(other[1]))
    films = [()]
    for _ in range(many):
        films = [film + (picture,) for film in films for picture in pictures]
        shown = [(bool(last_states(one, gap, film)), bool(last_states(other, gap, film))) for film in films]
        parted = [film for film, (first, second) in zip(films, shown) if first != second]
        if parted:
            return parted[0]
        films = [film for film, (first, _) in zip(films, shown) if first]
    return None


def parting_by_sets(one, other, gap):
    """Return the first of the shortest films that just one can show, from how far it is behind each set of states."""
    graph = sets_behind_films(one, other, gap)
    far = {both: 0 for both in graph if (both[0] == frozenset()) != (both[1] == frozenset())}
    grown = True
    while grown:
        grown = False
        for both in graph:
            ways = [far[after] + 1 for after in graph[both].values() if after in far]
            if ways and min(ways) < far.get(both, 10 ** 6):
                far[both] = min(ways)
                grown = True
    film, both = (), (None, None)
    while far.get(both, 0) > 0:
        picture = min(pic for pic, after in graph[both].items() if far.get(after) == far[both] - 1)
        film, both = film + (picture,), graph[both][picture]
    return film or None


class FilmsOneByOne(unittest.TestCase):
    def test_small_reels(self):
        # Two reels of two states are at no more than ten pairs of lots of states: longer films tell nothing new.
        reels = small_reels((0, 99))
        lengths = []
        for gap in [0, 1, None]:
            shown = {reel: films_shown(reel, gap, 10, (0, 99)) for reel in reels}
            for one, other in itertools.product(reels, repeat=2):
                parted = shown[one] ^ shown[other]
                first = min(parted, key=lambda film: (len(film), film), default=None)
                with self.subTest(one=one, other=other, gap=gap):
                    self.assertEqual(parting_film(one, other, gap), first)
                    self.assertIs(are_same(one, other, gap), not parted)
                    self.assertIs(covers(one, other, gap), shown[one] >= shown[other])
                lengths.append(None if first is None else len(first))
        self.assertTrue(set(lengths) >= {None, 1, 2, 3}, set(lengths))

    def test_drawn_reels(self):
        chance = random.Random(421)
        lengths, found = [], []
        for one, other in draw(42, 900, 6):
            gap = chance.choice([0, 0, 0, 1, 1, 2, 3, 4, 20, None])
            film, parted = parting_film(one, other, gap), parted_by_sets(one, other, gap)
            with self.subTest(one=one, other=other, gap=gap):
                self.assertIs(covers(one, other, gap), not parted[1])
                self.assertIs(covers(other, one, gap), not parted[0])
                self.assertIs(are_same(one, other, gap), not any(parted))
                self.assertEqual(film is None, not any(parted))
                self.assertEqual(film, parting_by_sets(one, other, gap))
                self.assertEqual(film, parting_film(other, one, gap))
                # As many frames as make no more than some hundred films.
                many = [0, 8, 7, 5, 4, 3, 3][min(6, len(set(one[1] + other[1])))]
                if film is None or len(film) <= many:
                    self.assertEqual(parting_by_films(one, other, gap, many), film)
                if film is not None:
                    self.assertNotEqual(can_show(one, gap, film), can_show(other, gap, film))
            lengths.append(None if film is None else len(film))
            found.append(parted)
        self.assertTrue(set(lengths) >= {None, 1, 2, 3, 4, 5}, set(lengths))
        for kind in itertools.product([False, True], repeat=2):
            self.assertGreater(found.count(kind), 40, kind)

    def test_least_gap_and_the_gap_none(self):
        found = []
        for one, other in draw(43, 400, 6):
            same = [gap for gap in [0, 1, 2, 3, 4, 5, 6, 19, 20] if not any(parted_by_sets(one, other, gap))]
            with self.subTest(one=one, other=other):
                self.assertEqual(least_gap_alike(one, other), same[0] if same else None)
                self.assertIs(bool(same), not any(parted_by_sets(one, other, None)))
                self.assertIs(bool(same), are_same(one, other, None))
            found.append(least_gap_alike(one, other))
        self.assertTrue(set(found) >= {None, 0, 1, 2}, set(found))


def partitions(states):
    """Return all ways to part states into lots."""
    if not states:
        return [[]]
    found = []
    for lots in partitions(states[:-1]):
        found.append(lots + [[states[-1]]])
        found += [lots[:at] + [lots[at] + [states[-1]]] + lots[at + 1:] for at in range(len(lots))]
    return found


def is_rule(reel, lots):
    """Tell whether states of one lot may be alike, state by state."""
    nexts, pictures = reel
    lot_of = {state: number for number, lot in enumerate(lots) for state in lot}
    return all(
        pictures[one] == pictures[other]
        and all(any(lot_of[after] == lot_of[then] for then in nexts[other]) for after in nexts[one])
        for lot in lots for one in lot for other in lot)


def folded_by_rules(reel):
    """Return the reel folded by the widest of all rules, trying rule by rule."""
    nexts, pictures = reel
    come = sorted({state for run in runs(reel, len(nexts)) for state in run})
    rules = [lots for lots in partitions(come) if is_rule(reel, lots)]
    lots = sorted(min(rules, key=len), key=min)
    ways = []
    for lot in lots:
        come_next = {after for state in lot for after in nexts[state]}
        ways.append(tuple(number for number, then in enumerate(lots) if come_next & set(then)))
    return tuple(ways), tuple(pictures[lot[0]] for lot in lots)


class Folded(unittest.TestCase):
    def test_example(self):
        self.assertEqual(folded((((1, 2), (0,), (0,)), (3, 4, 4))), (((1,), (0,)), (3, 4)))

    def test_nothing_to_fold(self):
        for reel in [STILL, RING, FULL, ONE, OTHER]:
            self.assertEqual(folded(reel), reel)

    def test_six_states_into_one(self):
        self.assertEqual(folded((FULL[0], (9,) * 6)), (((0,),), (9,)))
        self.assertEqual(folded((RING[0], (9,) * 6)), (((0,),), (9,)))
        self.assertEqual(folded((RING[0], (9, 8) * 3)), (((1,), (0,)), (9, 8)))
        self.assertEqual(folded((RING[0], (9, 8, 8) * 2)), (((1,), (2,), (0,)), (9, 8, 8)))

    def test_states_that_no_run_comes_to_are_left_out(self):
        self.assertEqual(folded((((2,), (0, 1), (2,)), (4, 5, 6))), (((1,), (1,)), (4, 6)))
        self.assertEqual(folded((((0,), (0,)), (4, 4))), (((0,),), (4,)))

    def test_numbered_by_their_least_states(self):
        # The lots are 0, then 1 with 4, then 2 with 3: pictures and rows do not tell the sequence.
        self.assertEqual(
            folded((((2, 3, 4), (0,), (1,), (4,), (0,)), (9, 8, 1, 1, 8))), (((1, 2), (0,), (1,)), (9, 8, 1)))

    def test_alike_needs_all_that_may_come_next(self):
        # The states 1 and 2 bear one picture, but only the state 1 may go on to the picture 6.
        reel = (((1, 2), (3, 4), (3,), (3,), (4,)), (4, 4, 4, 5, 6))
        self.assertEqual(folded(reel), reel)

    def test_parted_step_by_step(self):
        # All but the last one bear one picture, and each is a step farther from it.
        reel = (((1,), (2,), (3,), (4,), (5,), (5,)), (0, 0, 0, 0, 0, 1))
        self.assertEqual(folded(reel), reel)
        twice = (((1, 2), (3,), (4,), (5,), (5,), (5,)), (0, 0, 0, 0, 0, 1))
        self.assertEqual(folded(twice), (((1,), (2,), (3,), (3,)), (0, 0, 0, 1)))

    def test_same_films_but_not_alike(self):
        reel = (((1, 2), (3,), (4,), (3,), (4,)), (0, 1, 1, 2, 3))
        late = (((1,), (2, 3), (2,), (3,)), (0, 1, 2, 3))
        self.assertEqual([folded(reel), folded(late), are_same(reel, late, 0)], [reel, late, True])

    def test_wrong_arguments(self):
        self.assertEqual(raised(folded, 0), ("BadReel", {"part": "reel"}))
        self.assertEqual(raised(folded, (((),), (0,))), ("BadReel", {"part": "nexts"}))
        self.assertEqual(raised(folded, (((0,),), (0, 0))), ("BadReel", {"part": "pictures"}))

    def test_kinds_of_values(self):
        found = folded(ONE)
        self.assertEqual([type(found), type(found[0]), type(found[0][0]), type(found[1])], [tuple] * 4)

    def draw(self, seed, many):
        chance = random.Random(seed)
        for one, other in draw(seed, many, 6):
            yield one, other, chance.choice(GAPS)

    def test_rule_by_rule(self):
        sizes = []
        for reel in small_reels((0, 99)):
            self.assertEqual(folded(reel), folded_by_rules(reel), reel)
        for one, other, _ in self.draw(431, 300):
            for reel in (one, other, (one[0], (one[1][0],) * len(one[0]))):
                with self.subTest(reel=reel):
                    self.assertEqual(folded(reel), folded_by_rules(reel))
                    self.assertEqual(folded(folded(reel)), folded(reel))
                sizes.append(len(reel[0]) - len(folded(reel)[0]))
        self.assertTrue(set(sizes) >= {0, 1, 2, 3, 4, 5}, set(sizes))

    def test_same_films_by_every_gap(self):
        for one, _, _ in self.draw(432, 120):
            for gap in GAPS:
                with self.subTest(reel=one, gap=gap):
                    self.assertEqual(parted_by_sets(one, folded(one), gap), (False, False))
                    self.assertIs(are_same(one, folded(one), gap), True)

    def test_comes_out_between_the_folded_ones(self):
        outs = []
        for one, other, gap in self.draw(433, 500):
            with self.subTest(one=one, other=other, gap=gap):
                ends = not stays_open_for_ever(folded(one), folded(other), gap)
                self.assertIs(ends, not stays_open_for_ever(one, other, gap))
                self.assertIs(comes_out(folded(one), folded(other), gap), ends)
                self.assertIs(comes_out(one, other, gap), ends)
                self.assertIs(comes_out(one, folded(other), gap), ends)
            outs.append(ends)
        self.assertTrue(50 < sum(outs) < 450, sum(outs))


if __name__ == "__main__":
    unittest.main()

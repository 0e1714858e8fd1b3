"""Films by chance (point 45)."""

import fractions
import itertools
import math
import random
import unittest

from dropframes.films import could_be
from dropframes.means import chance_told, mean_told
from helper import (
    STILL, WRONG_CHANCES, WRONG_REELS, drawn_pool, drawn_reel, raised, small_reels, states_at_frame, wrong_numbers)

ZERO = (((0,),), (0,))
RING = (((1,), (2,), (3,), (4,), (5,), (0,)), (0, 1, 2, 3, 4, 5))
ALL = ((0, 1, 2, 3, 4, 5),) * 6
FULL, SAME = (ALL, (0, 1, 2, 3, 4, 5)), (ALL, (9,) * 6)
# The states of the second reel behind more and more frames are fewer and fewer, in so many steps as it has states.
STEPS = {many: (tuple((min(state + 1, many - 1),) for state in range(many)), (9,) * many) for many in range(1, 7)}
CHANCES = [(1, 1), (100, 100), (1, 2), (50, 100), (1, 100), (99, 100), (2, 3)]


def put_in(lines):
    """Solve equations, each the factors of all unknowns and the right side, by putting one in all others."""
    lines = [list(line) for line in lines]
    for at in range(len(lines)):
        turn = next(number for number in range(at, len(lines)) if lines[number][at] != 0)
        lines[at], lines[turn] = lines[turn], lines[at]
        lines[at] = [factor / lines[at][at] for factor in lines[at]]
        for number, line in enumerate(lines):
            if number != at and line[at] != 0:
                lines[number] = [factor - line[at] * taken for factor, taken in zip(line, lines[at])]
    return [line[-1] for line in lines]


def untold_by_runs(one, other, chance, many):
    """Return the chance that so many frames haven't told, along the runs.

    For each state that a run has come to, not yet shown or left out, the chance depends on the frames still to come
    and on where the second reel may be: for each of these it is worked out of the states that may come next.
    """
    share = fractions.Fraction(*chance)
    nexts, pictures = one
    kept = {}

    def untold(behind, many):
        if behind == frozenset():
            return [fractions.Fraction(0)] * len(nexts)
        if many == 0:
            return [fractions.Fraction(1)] * len(nexts)
        if (behind, many) not in kept:
            lines = []
            for state, row in enumerate(nexts):
                shown = untold(states_at_frame(other, None, behind, pictures[state]), many - 1)
                line = [fractions.Fraction(after == state) for after in range(len(nexts))]
                for after in row:
                    line[after] -= (1 - share) / len(row)
                lines.append(line + [share * sum(shown[after] for after in row) / len(row)])
            kept[behind, many] = put_in(lines)
        return kept[behind, many]

    return untold(None, many)[0]


def mean_by_runs(one, other, chance):
    """Return the mean number of frames until they have told, along the runs, None if it is without end."""
    share = fractions.Fraction(*chance)
    nexts, pictures = one
    graph = {}
    waiting = [(0, None)]
    while waiting:
        at = waiting.pop()
        if at not in graph:
            behind = states_at_frame(other, None, at[1], pictures[at[0]])
            shown = [(after, behind) for after in nexts[at[0]]] if behind else []
            left_out = [(after, at[1]) for after in nexts[at[0]]] if share < 1 else []
            graph[at] = behind, shown, left_out
            waiting += shown + left_out
    told = {at for at in graph if not graph[at][0]}
    grown = True
    while grown:
        more = {at for at in graph if at not in told and any(after in told for after in graph[at][1] + graph[at][2])}
        told |= more
        grown = bool(more)
    if len(told) < len(graph):
        return None
    places = {at: number for number, at in enumerate(graph)}
    lines = []
    for at, (_, shown, left_out) in graph.items():
        line = [fractions.Fraction(0)] * len(graph) + [share]
        line[places[at]] += 1
        for after in shown:
            line[places[after]] -= share / len(shown)
        for after in left_out:
            line[places[after]] -= (1 - share) / len(left_out)
        lines.append(line)
    return put_in(lines)[places[0, None]]


def bounds_by_runs(one, other, chance, many, length):
    """Return between what the chance must be: by the first so many states of each run, each shown or left out."""
    share = fractions.Fraction(*chance)
    runs = {(0,): fractions.Fraction(1)}
    for _ in range(length - 1):
        runs = {
            run + (after,): runs[run] / len(one[0][run[-1]]) for run in runs for after in one[0][run[-1]]}
    told = unsure = fractions.Fraction(0)
    for run, way in runs.items():
        for shown in itertools.product([False, True], repeat=length):
            film = tuple(one[1][state] for state, seen in zip(run, shown) if seen)[:many]
            part = way * share ** sum(shown) * (1 - share) ** (length - sum(shown))
            if part and could_be((one, other), None, film) != (0, 1):
                told += part
            elif len(film) < many:
                unsure += part
    return told, told + unsure


def pairs_by_films(one, other, chance):
    """Return how many pairs of a state at the last frame and of states of the second reel untold frames come to."""
    found, waiting = set(), [(None, None)]
    while waiting:
        state, behind = waiting.pop()
        if chance[0] < chance[1]:
            reached = set()
            for picture in set(one[1]):
                reached |= states_at_frame(one, None, None if state is None else {state}, picture)
        else:
            reached = {0} if state is None else set(one[0][state])
        for after in reached:
            pair = after, states_at_frame(other, None, behind, one[1][after])
            if pair[1] and pair not in found:
                found.add(pair)
                waiting.append(pair)
    return len(found)


def draw(seed, many, most_states):
    chance = random.Random(seed)
    for _ in range(many):
        pool = drawn_pool(chance)
        bottom = chance.choice([1, 2, 3, 7, 100, chance.randint(1, 100)])
        shown = chance.choice([1, bottom, chance.randint(1, bottom)])
        yield drawn_reel(chance, most_states, pool), drawn_reel(chance, most_states, pool), (shown, bottom)


def lowest(fraction):
    return fraction.numerator, fraction.denominator


class Chances(unittest.TestCase):
    def test_example(self):
        one, other = (((1, 2), (1,), (2,)), (0, 1, 2)), (((1,), (1,)), (0, 1))
        found = [
            chance_told(one, other, (1, 1), 1), chance_told(one, other, (1, 1), 2), mean_told(one, other, (1, 2))]
        self.assertEqual(found, [(0, 1), (1, 2), None])

    def test_no_frame(self):
        for chance in CHANCES:
            for one, other in [(STILL, ZERO), (STILL, STILL), (FULL, RING), (RING, STILL)]:
                self.assertEqual(chance_told(one, other, chance, 0), (0, 1))

    def test_one_state(self):
        for chance in CHANCES:
            for many in [1, 2, 29, 30]:
                self.assertEqual(chance_told(STILL, ZERO, chance, many), (1, 1))
                self.assertEqual(chance_told(STILL, STILL, chance, many), (0, 1))

    def test_thirty_frames(self):
        # Each frame behind the first one is 0 by the chance 1/2, and a 0 behind a 1 tells: 30 films of 2 ** 29 don't.
        one, other = (((0, 1), (0, 1)), (0, 1)), (((0, 1), (1,)), (0, 1))
        self.assertEqual(chance_told(one, other, (1, 1), 30), (2 ** 28 - 15, 2 ** 28))
        self.assertEqual([chance_told(one, other, (1, 1), many) for many in [1, 2, 3, 4]], [
            (0, 1), (0, 1), (1, 4), (1, 2)])

    def test_each_state_by_itself(self):
        # A run is once at 5 and then at 6 for ever: 5 tells if it is shown.
        one, other = (((1,), (1,)), (5, 6)), (((0,),), (6,))
        for top, bottom in [(1, 1), (1, 2), (2, 6), (1, 100), (99, 100), (100, 100), (7, 100), (100, 100)]:
            shared = math.gcd(top, bottom)
            for many in [1, 2, 30]:
                self.assertEqual(chance_told(one, other, (top, bottom), many), (top // shared, bottom // shared))
        # It is at 5 twice: at least one of both is shown.
        one = (((1,), (2,), (2,)), (5, 5, 6))
        self.assertEqual([chance_told(one, other, chance, 1) for chance in [(1, 2), (1, 3)]], [(3, 4), (5, 9)])

    def test_each_state_that_may_come_next_is_as_likely(self):
        one, other = (((0, 1, 2, 3, 4, 5),) + ((0,),) * 5, (0, 1, 2, 3, 4, 5)), (((0, 1, 2), (0,), (0,)), (0, 4, 5))
        self.assertEqual(chance_told(one, other, (1, 1), 2), (1, 2))
        self.assertEqual(chance_told(one, (((0, 1), (0,)), (0, 4)), (1, 1), 2), (2, 3))

    def test_second_reel_leaves_out_any_number(self):
        # The second one can show each film of the six pictures by the gap None, though not by the gap 4.
        for chance in CHANCES:
            self.assertEqual([chance_told(FULL, RING, chance, many) for many in [1, 2, 30]], [(0, 1)] * 3)
            self.assertEqual([chance_told(RING, FULL, chance, many) for many in [1, 2, 30]], [(0, 1)] * 3)

    def test_same_chances_by_unlike_pairs(self):
        for one, other, (top, bottom) in draw(450, 60, 5):
            times = 100 // bottom
            with self.subTest(one=one, other=other, chance=(top, bottom)):
                wanted = chance_told(one, other, (top, bottom), 5)
                self.assertEqual(chance_told(one, other, (times * top, times * bottom), 5), wanted)

    def test_kinds_of_values(self):
        told = [chance_told(FULL, ZERO, (1, 3), 2), chance_told(STILL, STILL, (1, 1), 0)]
        for value in told + [mean_told(FULL, ZERO, (1, 3))]:
            self.assertIs(type(value), tuple)
            self.assertEqual([type(part) for part in value], [int, int])

    def test_wrong_arguments(self):
        for value in WRONG_CHANCES:
            self.assertEqual(raised(chance_told, STILL, ZERO, value, 31), ("BadChance", {}), value)
            self.assertEqual(raised(mean_told, STILL, ZERO, value), ("BadChance", {}), value)
        for value in wrong_numbers(30):
            self.assertEqual(raised(chance_told, STILL, ZERO, (1, 1), value), ("BadNumber", {}), value)
        for value, part in WRONG_REELS:
            for arguments in [(value, 0, (0, 1)), (STILL, value, (0, 1))]:
                self.assertEqual(raised(chance_told, *arguments, -1), ("BadReel", {"part": part}), value)
                self.assertEqual(raised(mean_told, *arguments), ("BadReel", {"part": part}), value)

    def test_right_chances(self):
        for bottom in [1, 2, 50, 99, 100]:
            for top in {1, (bottom + 1) // 2, bottom}:
                self.assertEqual(chance_told(STILL, ZERO, (top, bottom), 1), (1, 1))
                self.assertEqual(mean_told(STILL, ZERO, (top, bottom)), (1, 1))


class ChancesWorkedOutApart(unittest.TestCase):
    def check(self, one, other, chance, many):
        with self.subTest(one=one, other=other, chance=chance, many=many):
            told = chance_told(one, other, chance, many)
            self.assertEqual(told, lowest(1 - untold_by_runs(one, other, chance, many)))
            self.assertGreater(told[1], 0)
        return told

    def test_all_frames_shown_run_by_run(self):
        for one, other, _ in draw(451, 250, 4):
            for many in [1, 2, 4]:
                least, most = bounds_by_runs(one, other, (1, 1), many, many)
                self.assertEqual(least, most)
                for chance in [(1, 1), (100, 100)]:
                    with self.subTest(one=one, other=other, many=many):
                        self.assertEqual(chance_told(one, other, chance, many), lowest(least))

    def test_frames_one_by_one(self):
        narrow = 0
        for one, other, _ in draw(452, 40, 3):
            for chance, many in [((1, 2), 1), ((1, 2), 2), ((4, 5), 2), ((4, 5), 3), ((1, 7), 1)]:
                least, most = bounds_by_runs(one, other, chance, many, 6)
                with self.subTest(one=one, other=other, chance=chance, many=many):
                    self.assertTrue(least <= fractions.Fraction(*chance_told(one, other, chance, many)) <= most)
                narrow += 0 < least < most < 1 and most - least < fractions.Fraction(1, 20)
        self.assertGreater(narrow, 15)

    def test_small_reels(self):
        reels = small_reels((0, 99))
        for one, other in itertools.product(reels, repeat=2):
            self.check(one, other, (1, 3), 3)

    def test_drawn_reels(self):
        sure = 0
        for one, other, chance in draw(453, 250, 6):
            for many in [1, 2, 3]:
                sure += self.check(one, other, chance, many)[1] == 1
        self.assertTrue(150 < sure < 600, sure)

    def test_up_to_thirty_frames(self):
        for one, other, chance in draw(454, 40, 6):
            for many in [9, 30]:
                self.check(one, other, chance, many)


class Means(unittest.TestCase):
    def test_example(self):
        self.assertEqual(mean_told((((1,), (1,)), (0, 1)), (((0,),), (0,)), (1, 2)), (3, 2))
        self.assertEqual(mean_told((((0, 1), (0, 1)), (0, 1)), (((1,), (1,)), (0, 1)), (1, 1)), (3, 1))

    def test_one_state(self):
        for chance in CHANCES:
            self.assertEqual(mean_told(STILL, ZERO, chance), (1, 1))
            self.assertIsNone(mean_told(STILL, STILL, chance))

    def test_six_states(self):
        for chance in CHANCES:
            self.assertIsNone(mean_told(FULL, FULL, chance))
            self.assertIsNone(mean_told(RING, FULL, chance))
            self.assertIsNone(mean_told(FULL, RING, chance))
        # Each frame behind the first one is 0 by the chance 1/6, whatever is left out ahead of it.
        self.assertEqual(mean_told(FULL, ZERO, (1, 1)), (11, 5))
        self.assertEqual(mean_told(RING, ZERO, (1, 1)), (2, 1))
        # The first frame is 0 by the chance 32/63, and one behind a 0 by 1/63.
        self.assertEqual(mean_told(RING, ZERO, (1, 2)), (47, 31))

    def test_without_end(self):
        # By the chance 1/2 a run goes to where nothing tells.
        one, other = (((1, 2), (1,), (2,)), (0, 1, 2)), (((1,), (1,)), (0, 1))
        for chance in CHANCES:
            self.assertIsNone(mean_told(one, other, chance))
        # What tells may be left out, and only once there is the chance to see it; by the chance 1 it is surely seen.
        one, other = (((1,), (1,)), (5, 6)), (((0,),), (6,))
        self.assertEqual([mean_told(one, other, chance) for chance in [(1, 1), (100, 100)]], [(1, 1), (1, 1)])
        self.assertEqual([mean_told(one, other, chance) for chance in [(1, 2), (99, 100)]], [None, None])
        # Whatever is left out, it comes again.
        one = (((1,), (0,)), (5, 6))
        self.assertEqual([mean_told(one, other, chance) for chance in [(1, 1), (1, 2)]], [(1, 1), (3, 2)])

    def test_pairs_up_to_24(self):
        for many in [1, 2, 3, 4]:
            self.assertEqual(pairs_by_films(SAME, STEPS[many], (1, 2)), 6 * many)
            self.assertIsNone(mean_told(SAME, STEPS[many], (1, 2)))
        for many in [5, 6]:
            for chance in [(1, 2), (99, 100), (1, 100)]:
                self.assertEqual(raised(mean_told, SAME, STEPS[many], chance), ("TooMany", {"most": 24}))
                # Only the mean asks how many there are.
                self.assertEqual(chance_told(SAME, STEPS[many], chance, 30), (0, 1))
        # All frames shown, the first one is at the state 0.
        self.assertEqual(pairs_by_films(SAME, STEPS[4], (1, 1)), 19)
        self.assertEqual(pairs_by_films(SAME, STEPS[5], (1, 1)), 25)
        for chance in [(1, 1), (100, 100)]:
            self.assertIsNone(mean_told(SAME, STEPS[4], chance))
            self.assertEqual(raised(mean_told, SAME, STEPS[5], chance), ("TooMany", {"most": 24}))

    def test_pairs_of_frames_that_tell_at_last(self):
        one, other = (ALL, (0, 1, 1, 0, 1, 1)), (((0, 1, 2, 3), (2, 5), (3, 4), (4,), (4,), (5,)), (0, 1, 0, 1, 1, 1))
        self.assertEqual(pairs_by_films(one, other, (1, 2)), 24)
        for chance in [(1, 2), (1, 100), (99, 100)]:
            self.assertEqual(mean_told(one, other, chance), lowest(mean_by_runs(one, other, chance)))
        one = (((0, 1, 2, 3, 4, 5), (2, 3, 4, 5), (2, 3, 4, 5), (3, 4, 5), (4, 5), (5,)), (1, 1, 1, 1, 1, 0))
        other = (((2, 3, 4, 5), (1, 2, 4), (3, 4, 5), (4, 5), (5,), (5,)), (1, 0, 1, 1, 1, 1))
        self.assertEqual([pairs_by_films(one, other, chance) for chance in [(1, 2), (1, 1)]], [25, 21])
        self.assertEqual(raised(mean_told, one, other, (1, 2)), ("TooMany", {"most": 24}))
        self.assertEqual(mean_told(one, other, (1, 1)), lowest(mean_by_runs(one, other, (1, 1))))

    def test_too_many_comes_behind_all_others(self):
        self.assertEqual(raised(mean_told, SAME, STEPS[5], (0, 1)), ("BadChance", {}))
        self.assertEqual(raised(mean_told, SAME, 5, (1, 2)), ("BadReel", {"part": "reel"}))

    def test_equations_solved_apart(self):
        ended = 0
        for one, other, chance in draw(455, 600, 6):
            with self.subTest(one=one, other=other, chance=chance):
                if pairs_by_films(one, other, chance) > 24:
                    self.assertEqual(raised(mean_told, one, other, chance), ("TooMany", {"most": 24}))
                    continue
                mean, wanted = mean_told(one, other, chance), mean_by_runs(one, other, chance)
                self.assertEqual(mean, None if wanted is None else lowest(wanted))
            ended += mean is not None and mean[1] > 1
        self.assertGreater(ended, 100)

    def test_small_reels(self):
        for one, other in itertools.product(small_reels((0, 99)), repeat=2):
            for chance in [(1, 1), (2, 3)]:
                with self.subTest(one=one, other=other, chance=chance):
                    wanted = mean_by_runs(one, other, chance)
                    self.assertEqual(mean_told(one, other, chance), None if wanted is None else lowest(wanted))

    def test_pairs_counted_film_by_film(self):
        chance = random.Random(456)
        lots = {True: 0, False: 0}
        for _ in range(4000):
            nexts = [
                tuple(sorted(set(chance.sample(range(6), chance.randint(0, 2))) & set(range(state + 1, 6)) | {
                    min(state + 1, 5)})) for state in range(6)]
            one = ALL, tuple(chance.choice([0, 0, 0, 1]) for _ in range(6))
            other = tuple(nexts), tuple(chance.choice([0, 0, 0, 1]) for _ in range(6))
            share = chance.choice([(1, 1), (1, 2)])
            pairs = pairs_by_films(one, other, share)
            if pairs > 20:
                with self.subTest(one=one, other=other, chance=share, pairs=pairs):
                    error = raised(mean_told, one, other, share)
                    self.assertEqual(error, ("TooMany", {"most": 24}) if pairs > 24 else None)
                lots[pairs > 24] += 1
        self.assertGreater(min(lots.values()), 10, lots)

    def test_sum_of_the_chances(self):
        # The mean is the sum of the chances, from no frame on, that so many haven't told.
        near = 0
        for one, other, chance in draw(457, 150, 4):
            mean = mean_told(one, other, chance)
            untold = [1 - fractions.Fraction(*chance_told(one, other, chance, many)) for many in range(31)]
            self.assertEqual(untold, sorted(untold, reverse=True))
            if mean is None:
                self.assertGreater(untold[30], 0)
                continue
            with self.subTest(one=one, other=other, chance=chance):
                self.assertGreaterEqual(fractions.Fraction(*mean), sum(untold))
                if untold[30] < fractions.Fraction(1, 10 ** 6):
                    near += 1
                    self.assertLess(fractions.Fraction(*mean) - sum(untold), fractions.Fraction(1, 1000))
        self.assertGreater(near, 40)


if __name__ == "__main__":
    unittest.main()

"""What holds of every function (point 1): wrong arguments, their errors, arguments left as they are."""

import copy
import inspect
import itertools
import unittest

import dropframes.errors
from dropframes import benches, desks, filmcounts, films, means, paints, pairs, reels, sames, texts, views
from helper import (
    ONE, OTHER, STILL, VALUES, WRONG_CHANCES, WRONG_FILMS, WRONG_GAPS, WRONG_LOTS, WRONG_MANY, WRONG_REELS,
    WRONG_TEXTS, WRONG_VIEWS, wrong_numbers)

FUNCTIONS = {
    reels: {"recurring_states": ["reel"], "recurring_pictures": ["reel"], "passing": ["reel"]},
    films: {
        "can_show": ["reel", "gap", "film"], "behind": ["reel", "gap", "film"],
        "could_be": ["reels", "gap", "film"], "told_at": ["reels", "gap", "film"]},
    pairs: {
        "comes_out": ["reel", "reel", "gap"], "longest_open": ["reel", "reel", "gap"],
        "open_film": ["reel", "reel", "gap"], "shows_open_film": ["reel", "reel", "gap", "any"],
        "ranks": ["reel", "reel", "gap"], "endless_film": ["reel", "reel", "gap"],
        "shows_endless_film": ["reel", "reel", "gap", "any"], "least_gap": ["reel", "reel"],
        "all_come_out": ["reels", "gap"], "most_open": ["reels", "gap"]},
    paints: {
        "repaints": ["reel", "reel", "gap"], "fewest_repaints": ["reel", "reel", "gap"],
        "repainted": ["reel", "reel", "lot"]},
    benches: {"Bench": ["reels", "gap"]},
    texts: {
        "reel_text": ["reel"], "reels_text": ["reels"], "film_text": ["film"], "tale": ["reels", "gap", "film"],
        "read_reel": ["text of a reel"], "read_reels": ["text of reels"], "read_film": ["text of a film"]},
    sames: {
        "covers": ["reel", "reel", "gap"], "are_same": ["reel", "reel", "gap"],
        "parting_film": ["reel", "reel", "gap"], "least_gap_alike": ["reel", "reel"], "folded": ["reel"]},
    filmcounts: {
        "count_films": ["reel", "gap", "many to 100"], "count_open": ["reel", "reel", "gap", "many to 100"],
        "kept_pictures": ["reel", "reel", "gap"]},
    means: {
        "chance_told": ["reel", "reel", "chance", "many to 30"], "mean_told": ["reel", "reel", "chance"]},
    views: {"viewed": ["reel", "reel", "view"], "coarsest_views": ["reel", "reel", "gap"]},
    desks: {"Desk": ["reels", "gap"]},
}

NAMES = {
    "can_show": "reel gap film", "behind": "reel gap film", "could_be": "reels gap film", "told_at": "reels gap film",
    "comes_out": "one other gap", "longest_open": "one other gap", "open_film": "one other gap",
    "shows_open_film": "one other gap value", "ranks": "one other gap", "endless_film": "one other gap",
    "shows_endless_film": "one other gap value", "least_gap": "one other", "all_come_out": "reels gap",
    "most_open": "reels gap", "recurring_states": "reel", "recurring_pictures": "reel", "passing": "reel",
    "repaints": "one other gap", "fewest_repaints": "one other gap", "repainted": "one other lot",
    "Bench": "reels gap", "reel_text": "reel", "reels_text": "reels", "film_text": "film", "tale": "reels gap film",
    "read_reel": "text", "read_reels": "text", "read_film": "text", "covers": "one other gap",
    "are_same": "one other gap", "parting_film": "one other gap", "least_gap_alike": "one other", "folded": "reel",
    "count_films": "reel gap many", "count_open": "one other gap many", "kept_pictures": "one other gap",
    "chance_told": "one other chance many", "mean_told": "one other chance", "viewed": "one other view",
    "coarsest_views": "one other gap", "Desk": "reels gap"}

SIX = (((0, 1, 2, 3, 4, 5),) * 6, (0, 99, 0, 99, 0, 99))



def view_of_one_tuple(one, other):
    return (tuple(sorted(set(one[1] + other[1]))),)


def view_of_single_pictures(one, other):
    return tuple((picture,) for picture in sorted(set(one[1] + other[1])))


# Right arguments of each kind, the edges among them; a view depends on the two reels ahead of it.
RIGHT = {
    "reel": [STILL, ONE, SIX], "gap": [0, 20, None, 1], "film": [(), (0,), (0, 99), (7,) * 1000],
    "reels": [(ONE, OTHER), (STILL, SIX, STILL, ONE, OTHER, SIX)], "any": [None, (), 5],
    "lot": [(), ((0, 0),), ((1, 0),), ((0, 0), (1, 0))],
    "text of a reel": ["state 0 picture 0 next 1\nstate 1 picture 99 next 0 1\n"],
    "text of reels": ["reel 0\nstate 0 picture 0 next 0\nreel 1\nstate 0 picture 99 next 0\n"],
    "text of a film": ["film\n", "film 0 99\n"],
    "many to 100": [0, 1, 100], "many to 30": [0, 1, 30], "chance": [(1, 1), (1, 100), (100, 100), (2, 4)],
    "view": [view_of_one_tuple, view_of_single_pictures],
}

# Wrong ones, each with the error that it raises and its fields.
WRONG = {
    "reel": [(value, "BadReel", {"part": part}) for value, part in WRONG_REELS],
    "gap": [(value, "BadGap", {}) for value in WRONG_GAPS],
    "film": [(value, "BadFilm", {}) for value in WRONG_FILMS],
    "reels": [(value, "BadReels", {"index": index}) for value, index in WRONG_MANY],
    "any": [],
    "lot": [(value, "BadStep", {}) for value in WRONG_LOTS],
    "text of a reel": [(value, "BadLine", {"line": 0}) for value in WRONG_TEXTS + RIGHT["text of a film"]],
    "text of reels": [(value, "BadLine", {"line": 0}) for value in WRONG_TEXTS + RIGHT["text of a reel"]],
    "text of a film": [(value, "BadLine", {"line": 0}) for value in WRONG_TEXTS + RIGHT["text of reels"]],
    "many to 100": [(value, "BadNumber", {}) for value in wrong_numbers(100)],
    "many to 30": [(value, "BadNumber", {}) for value in wrong_numbers(30)],
    "chance": [(value, "BadChance", {}) for value in WRONG_CHANCES],
    "view": [(value, "BadView", {}) for value in WRONG_VIEWS],
}


def listed():
    """Return each function of the interface with the kinds of its arguments."""
    return [(getattr(file, name), kinds) for file, names in FUNCTIONS.items() for name, kinds in names.items()]


def settled(arguments):
    """Return right arguments as they are passed, with the view of these reels in place of what makes it."""
    return [value(*arguments[:2]) if callable(value) else value for value in arguments]


def told(answer):
    """Return what an answer tells, as a string."""
    if isinstance(answer, desks.Desk):
        return repr([answer.do(line) for line in ["film", "left", "may", "out"]] + [answer.text()])
    if isinstance(answer, benches.Bench):
        return repr((answer.film, answer.left, answer.may_come()))
    return repr(answer)


class Arguments(unittest.TestCase):
    def assert_wrong(self, function, arguments, name, fields):
        before = copy.deepcopy(arguments)
        with self.subTest(function.__name__, arguments=arguments):
            with self.assertRaises(dropframes.errors.ReelError) as caught:
                function(*arguments)
            self.assertIs(type(caught.exception), getattr(dropframes.errors, name))
            self.assertEqual(vars(caught.exception), fields)
            self.assertEqual(repr(arguments), repr(before))

    def test_every_wrong_value_in_every_place(self):
        for function, kinds in listed():
            right = settled([RIGHT[kind][0] for kind in kinds])
            for place, kind in enumerate(kinds):
                for value, name, fields in WRONG[kind]:
                    self.assert_wrong(function, right[:place] + [value] + right[place + 1:], name, fields)

    def test_leftmost_wrong_argument_first(self):
        for function, kinds in listed():
            for wrong in itertools.product([False, True], repeat=len(kinds)):
                places = [place for place, kind in enumerate(kinds) if wrong[place] and WRONG[kind]]
                if len(places) < 2:
                    continue
                for turn in range(0, 60, 7):
                    arguments = settled([RIGHT[kind][turn % len(RIGHT[kind])] for kind in kinds])
                    for place in places:
                        lot = WRONG[kinds[place]]
                        arguments[place] = lot[(turn * (place + 1)) % len(lot)][0]
                    lot = WRONG[kinds[places[0]]]
                    _, name, fields = lot[(turn * (places[0] + 1)) % len(lot)]
                    self.assert_wrong(function, arguments, name, fields)

    def test_errors_come_ahead_of_what_shows_tells(self):
        for shows in [pairs.shows_open_film, pairs.shows_endless_film]:
            for value in VALUES + [None]:
                self.assert_wrong(shows, [STILL, STILL, 21, value], "BadGap", {})
                self.assert_wrong(shows, [STILL, 0, 21, value], "BadReel", {"part": "reel"})
                self.assert_wrong(shows, [(0, 0), 0, 21, value], "BadReel", {"part": "nexts"})

    def test_shows_tells_true_or_false(self):
        others = [value for value, _ in WRONG_REELS + WRONG_MANY] + WRONG_GAPS + WRONG_FILMS
        for value in VALUES + others + [((), (7,)), ((7,), (7,)), [[], [7]], ("", "7")]:
            for shows in [pairs.shows_open_film, pairs.shows_endless_film]:
                for one, other in [(STILL, STILL), (STILL, ONE), (ONE, OTHER)]:
                    before = copy.deepcopy(value)
                    with self.subTest(shows.__name__, value=value, one=one, other=other):
                        self.assertIs(type(shows(one, other, 0, value)), bool)
                        self.assertEqual(repr(value), repr(before))

    def test_right_arguments_raise_nothing_and_stay(self):
        for function, kinds in listed():
            for rights in itertools.product(*[RIGHT[kind] for kind in kinds]):
                arguments = settled(rights)
                before = copy.deepcopy(arguments)
                with self.subTest(function.__name__, arguments=arguments):
                    first = function(*arguments)
                    self.assertEqual(told(first), told(function(*arguments)))
                    self.assertEqual(repr(arguments), repr(before))

    def test_names_of_arguments(self):
        for function, kinds in listed():
            with self.subTest(function.__name__):
                parameters = inspect.signature(function).parameters
                self.assertEqual(" ".join(parameters), NAMES[function.__name__])
                self.assertEqual(len(parameters), len(kinds))
                for parameter in parameters.values():
                    self.assertIs(parameter.default, inspect.Parameter.empty)
                    self.assertIs(parameter.kind, inspect.Parameter.POSITIONAL_OR_KEYWORD)

    def test_defined_where_the_interface_lists_them(self):
        for file, names in FUNCTIONS.items():
            for name in names:
                self.assertEqual(getattr(file, name).__module__, file.__name__)


class Edges(unittest.TestCase):
    """What is just allowed, beside what just is not (above)."""

    def test_reels(self):
        for reel in [STILL, SIX, (((0,),), (0,)), (((0,),), (99,)), (((0, 1), (1,)), (0, 0)), (((5,),) * 6, (99,) * 6)]:
            self.assertIs(type(reels.passing(reel)), int)

    def test_gaps(self):
        for gap in list(range(21)) + [None]:
            self.assertIs(films.can_show(STILL, gap, ()), True)

    def test_films(self):
        for film in [(), (0,), (99,), (0,) * 1000, (99,) * 1000]:
            self.assertIs(type(films.can_show(STILL, 0, film)), bool)
            self.assertEqual(texts.read_film(texts.film_text(film)), film)

    def test_many_reels(self):
        for many in range(2, 7):
            self.assertEqual(films.could_be((STILL,) * many, 0, ()), tuple(range(many)))


if __name__ == "__main__":
    unittest.main()

"""What the tests share: values of every kind, reels by chance, and answers worked out run by run.

Nothing here imports the package: the answers are worked out from the words of the document alone.
"""

import itertools

# Values of every kind that may be passed. None is left out: it is a gap.
VALUES = [
    -1, 0, 1, 6, 20, 21, 99, 100, 1000, 10 ** 40, -10 ** 40,
    "", "0", "reel", "01", True, False,
    (), (0,), (0, 1), (5, 5), (0, 99), (0, 100), (-1,), (True,), (False, 0), (None,), ("0",), ("a", "b"), ((),),
    ((), ()), ((0,),), ((0,), (0,)), ([0], (0,)), (None, None), (0, 1, 2), (0, (1, 2)),
    [], [0], [(0,), (0,)], [((0,),), (5,)], [[[0]], [5]],
    {}, {0: 0}, {0: ((0,),), 1: (5,)}, {"nexts": ((0,),), "pictures": (0,)},
]

# The simplest reel, and two on which a film soon tells.
STILL = (((0,),), (7,))
ONE = (((1,), (1,)), (0, 1))
OTHER = (((1,), (1,)), (0, 2))

# What is no reel, with the part that is wrong.
WRONG_REELS = [(value, "reel") for value in VALUES if not isinstance(value, tuple) or len(value) != 2] + [
    (None, "reel"), ((((0,),), (5,), ()), "reel"), ((((0,),),), "reel"), ([((0,),), (5,)], "reel"),
    ((0, 1), "nexts"), ((5, 5), "nexts"), ((None, None), "nexts"), (("a", "b"), "nexts"), (((), ()), "nexts"),
    (((0,), (0,)), "nexts"), (([(0,)], (5,)), "nexts"), ((([0],), (5,)), "nexts"), (({0: (0,)}, (5,)), "nexts"),
    ((((),), (5,)), "nexts"), ((((1,),), (5,)), "nexts"), ((((-1,),), (5,)), "nexts"), ((((False,),), (5,)), "nexts"),
    ((((0, 0),), (5,)), "nexts"), ((((1, 0), (0,)), (5, 5)), "nexts"), ((((0, True), (0,)), (5, 5)), "nexts"),
    ((((0,), ()), (5, 5)), "nexts"), ((((0,), (2,)), (5, 5)), "nexts"), ((((0,), 0), (5, 5)), "nexts"),
    ((((0,), None), (5, 5)), "nexts"), (((("0",),), (5,)), "nexts"), (((((0,),),), (5,)), "nexts"),
    ((((0,),) * 7, (5,) * 7), "nexts"), ((((0,),) * 7, (5,) * 6), "nexts"), ((((1,),), (100,)), "nexts"),
    (("0", "5"), "nexts"), ((True, False), "nexts"), (((), (5,)), "nexts"), (((((), 0),), (5,)), "nexts"),
    ((((0,),), ()), "pictures"), ((((0,),), (5, 5)), "pictures"), ((((0,), (0,)), (5,)), "pictures"),
    ((((0,),), 5), "pictures"), ((((0,),), None), "pictures"), ((((0,),), [5]), "pictures"),
    ((((0,),), {0: 5}), "pictures"), ((((0,),), "5"), "pictures"), ((((0,),), ("5",)), "pictures"),
    ((((0,),), (True,)), "pictures"), ((((0,),), (False,)), "pictures"), ((((0,),), (None,)), "pictures"),
    ((((0,),), (-1,)), "pictures"), ((((0,),), (100,)), "pictures"), ((((0,),), ((5,),)), "pictures"),
    ((((0,), (1,)), (5, 10 ** 40)), "pictures"), ((((0,),) * 6, (5,) * 7), "pictures"),
]

# What is no tuple of 2 to 6 reels, with the index of the first that is no reel.
WRONG_MANY = [(value, None) for value in VALUES if not isinstance(value, tuple) or not 2 <= len(value) <= 6] + [
    (None, None), ((STILL,), None), ((STILL,) * 7, None), ([STILL, STILL], None), ({0: STILL, 1: STILL}, None),
    ((0,) * 7, None), ((STILL, 0), 1), ((0, STILL), 0), ((0, 0), 0), (("a", "b"), 0), ((None, None), 0),
    ((STILL, None), 1), ((STILL,) * 5 + (True,), 5), ((STILL, STILL, (((1,),), (0,)), STILL, 0), 2),
    ((STILL, [((0,),), (7,)]), 1), ((STILL, (((0,),), (100,))), 1), (STILL, 0), ((STILL, STILL, ()), 2),
]

WRONG_GAPS = [value for value in VALUES if isinstance(value, bool) or value not in range(21)]

WRONG_FILMS = [None] + [value for value in VALUES if not isinstance(value, tuple)] + [
    (100,), (-1,), (True,), (0, False), (None,), ("0",), ((),), ((0,),), ([0],), (0, 1, 100), (0, 10 ** 40),
    (7,) * 1001, (7,) * 5000, (7,) * 999 + (100,), ({},),
]

WRONG_PICTURES = [None] + [value for value in VALUES if isinstance(value, bool) or value not in range(100)]

# What is no lot of places of any two reels.
WRONG_LOTS = [None] + [value for value in VALUES if value != ()] + [
    ((0, 6),), ((1, 6),), ((2, 0),), ((-1, 0),), ((0, -1),), ((1, -1),), ((0, 10 ** 40),), ((10 ** 40, 0),),
    ((True, 0),), ((False, 0),), ((0, True),), ((0, False),), ((0, 0), (True, 0)), ((0, 0), (1, False)),
    ((1, 0), (0, 0)), ((0, 0), (0, 0)), ((1, 0), (1, 0)), ((0, 0, 0),), ((0,),), ([0, 0],), ((0, 0), [1, 0]),
    ((0, 0), 0), ((0, 0), None), (None, (0, 0)), ((0, None),), ((None, 0),), ((0, "0"),), (("0", 0),), ("00",),
    ((0, (0,)),), (((0, 0),),), [(0, 0)], {(0, 0): True}, (0, 0), (0, 0, 1, 0), ((0, 0), ()), ({0: 0},),
]

# What is no view of two of the reels above, nor of these and one with the pictures 0 and 99.
WRONG_VIEWS = [None] + VALUES + [
    (0, 7), (0, 1, 7, 99), ([0, 7],), [(0, 7)], ((0, 7, 0),), ((7, 0),), ((7, 7),), ((7,), (7,)), ((0,), (0, 7)),
    ((7,), (0,)), ((0, 1, 7, 99, 100),), ((0, 1, 7, 50, 99),), ((-1, 7),), ((False, 7),), ((0, True, 7),), (("7",),),
    ("7",), ({7: 7},), {(7,): (7,)}, (((7,),),), ((7, None),), ((7,), None), (None, (7,)), ((7,), [0]), ((7,), 0),
    ((0, 99), (1, 7), (7,)), ((7,), (0, 1)), ((99,), (7,)), ((7,) * 5000,), ((0,), (0,), (7,)), ((10 ** 40,),),
]

WRONG_CHANCES = [None] + [value for value in VALUES if value != (5, 5)] + [
    (0, 1), (1, 0), (0, 0), (2, 1), (100, 99), (1, 101), (101, 101), (101, 100), (-1, -1), (-1, 2), (1, -2),
    (True, 1), (1, True), (True, True), (False, 1), (1,), (1, 2, 3), (1, 2, 1), [1, 2], {1: 2}, ("1", "2"), "12",
    (None, 1), (1, None), ((1,), 2), (1, (2,)), ((1, 2),), (1, [2]), (10 ** 40, 10 ** 40), (1, 10 ** 40), ({}, 1),
]


def wrong_numbers(most):
    """Return values that are no integers from 0 to the most."""
    values = [None, most + 1, -1, 2 * most, 10 ** 40, str(most), (most,), [most], {most: most}]
    return values + [value for value in VALUES if isinstance(value, bool) or value not in range(most + 1)]


# Texts that tell nothing, wrong at their line 0 whoever reads them.
WRONG_TEXTS = [None] + VALUES + [
    "\n", "\n\n", " ", " \n", "film", "reel 0", "state 0 picture 5 next 0", "stat 0\n", "films 0\n", "reels 0\n",
    ("film\n",), ["film\n"], {"film\n": 0}, {0: "state 0 picture 5 next 0\n"}, "\rfilm\n", "#\n", "%\n", "state\n",
]


def raised(function, *arguments):
    """Return the name and the fields of the error that a call raises, None if it raises none."""
    try:
        function(*arguments)
    except ValueError as error:
        return type(error).__name__, vars(error)
    return None


def drawn_reel(chance, most_states, pool):
    """Draw a reel of at most so many states, with pictures out of a pool."""
    many = chance.randint(1, most_states)
    # Half of the reels mostly go forward, to a state with a picture of its own: open films that end are not rare.
    forward = chance.random() < 0.5
    nexts = []
    for state in range(many):
        least = min(state + 1, many - 1) if forward and chance.random() < 0.85 else 0
        lot = range(least, many)
        nexts.append(tuple(sorted(chance.sample(lot, min(len(lot), chance.choice([1, 1, 1, 2, 2, 3, 6]))))))
    pictures = [chance.choice(pool) for _ in range(many)]
    if forward:
        pictures[-1] = chance.randint(0, 99)
    return tuple(nexts), tuple(pictures)


def drawn_pool(chance):
    """Draw pictures from the whole range, the least and the greatest one not rarely, the first one often."""
    pool = chance.sample(range(100), chance.choice([1, 1, 2, 2, 3, 5]))
    return pool + chance.sample([0, 99], chance.choice([0, 0, 1, 2])) + pool[:1] * 3


def small_reels(pictures):
    """Return all reels of one state and of two with these pictures."""
    rows = [(0,), (1,), (0, 1)]
    single = [(((0,),), (picture,)) for picture in pictures]
    twos = list(itertools.product(pictures, repeat=2))
    return single + [(nexts, shown) for nexts in itertools.product(rows, repeat=2) for shown in twos]


def runs(reel, many):
    """Return the first so many states of each run."""
    found = [(0,)]
    for _ in range(many - 1):
        found = [run + (state,) for run in found for state in reel[0][run[-1]]]
    return found


def films_of_runs(reel, gap, many):
    """Return all films of so many frames, each with the states at its last frame, run by run."""
    left_out = len(reel[0]) if gap is None else gap
    found = {}
    for run in runs(reel, many * (left_out + 1)):
        for places in itertools.combinations(range(len(run)), many):
            skipped = [place - before - 1 for before, place in zip((-1,) + places, places)]
            if max(skipped) <= left_out:
                film = tuple(reel[1][run[place]] for place in places)
                found.setdefault(film, set()).add(run[places[-1]])
    return found


def last_states(reel, gap, film, first=0):
    """Return the states at which the last frame of a film may be, going along the runs state by state.

    The runs begin at the state named first.
    """
    nexts, pictures = reel
    # Any number left out: more in a row than there are states only come by a state again.
    most = len(nexts) if gap is None else gap
    found, met, waiting = set(), set(), [(first, 0, 0)]
    while waiting:
        at = waiting.pop()
        if at in met:
            continue
        met.add(at)
        state, left_out, shown = at
        if not film:
            found.add(state)
        elif pictures[state] == film[shown]:
            if shown + 1 == len(film):
                found.add(state)
            else:
                waiting += [(after, 0, shown + 1) for after in nexts[state]]
        if left_out < most:
            waiting += [(after, left_out + 1, shown) for after in nexts[state]]
    return tuple(sorted(found))


def open_films(one, other, gap, many, first=0, twin=0):
    """Return the films of so many frames that both reels can show, film by film."""
    pictures = sorted(set(one[1]) & set(other[1]))
    found = [()]
    for _ in range(many):
        longer = [film + (picture,) for film in found for picture in pictures]
        found = [film for film in longer if last_states(one, gap, film, first) and last_states(other, gap, film, twin)]
    return found


def recurring(reel):
    """Return the states that recur, run by run: each comes within so many states as there are, or never."""
    many = len(reel[0])
    come = {state for run in runs(reel, many) for state in run}
    again = set()
    for state in come:
        ways = [(state,)]
        for _ in range(many):
            ways = list({(way[-1], after) for way in ways for after in reel[0][way[-1]]})
            if any(way[-1] == state for way in ways):
                again.add(state)
    return tuple(sorted(again))


def passed(reel):
    """Return the most states on one run that do not recur, run by run."""
    back = recurring(reel)
    return max(len(set(run) - set(back)) for run in runs(reel, len(reel[0])))


def states_at_frame(reel, gap, states, picture):
    """Return the set of the states at a next frame of this picture, walking on from these; from None, ahead of all."""
    nexts, pictures = reel
    most = len(nexts) if gap is None else gap
    walked = {0} if states is None else {after for state in states for after in nexts[state]}
    found = set()
    for _ in range(most + 1):
        found |= {state for state in walked if pictures[state] == picture}
        walked = {after for state in walked for after in nexts[state]}
    return frozenset(found)


def sets_behind_films(one, other, gap):
    """Return for each two sets of states behind a film those behind it and one picture more, picture by picture.

    The first ones are (None, None), ahead of all frames; behind a film that not both can show nothing is asked.
    """
    found, waiting = {}, [(None, None)]
    while waiting:
        both = waiting.pop()
        if both not in found:
            found[both] = {}
            if frozenset() not in both:
                for picture in set(one[1]) | set(other[1]):
                    found[both][picture] = (
                        states_at_frame(one, gap, both[0], picture), states_at_frame(other, gap, both[1], picture))
                waiting += found[both].values()
    return found


def stays_open_for_ever(one, other, gap):
    """Tell whether an endless row of pictures has only open beginnings, set of states by set of states."""
    graph = sets_behind_films(one, other, gap)
    ways = {both: {after for after in graph[both].values() if frozenset() not in after} for both in graph}
    ended = {both for both in ways if not ways[both]}
    while ended:
        ways = {both: ways[both] - ended for both in ways if both not in ended}
        ended = {both for both in ways if not ways[both]}
    return (None, None) in ways

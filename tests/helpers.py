"""What the tests share: values of every odd kind, throws of small sizes, and how a refusal is checked."""

import unittest
from itertools import permutations, product

from lotthrows.benches import Bench


def nested(depth):
    """A tuple within a tuple, and so on."""
    value = 0
    for _ in range(depth):
        value = (value,)
    return value


BENCH = Bench(2, (0, 1, 0))
# None of these is an integer, a string, a deck, an order or a throw.
NOTHING_VALID = (
    None, True, False, [], [0], [0, 1], {}, {0: 0}, {"a": [1, (2, None)]}, (None,), (True,), (False,), (0, True),
    (False, 1), ("0",), ("",), ([0],), ([],), ((),), ((0,),), (((0,),),), (-1,), (10 ** 99,), (-10 ** 99,), (0, -1),
    (0, [1]), ((0,), 1), [((0,), 1)], (((0,), True),), ({},), ({"a": 1}, 0), (0,) * 1999 + (8,), nested(12),
    [[[[]]]], (0, None), ("a", 1, None, True, (), [], {}), BENCH, (BENCH,), ("throw", BENCH), (0, BENCH), [BENCH, 0],
)
INTEGERS = (0, 1, 2, 3, 7, -1, -2, 10 ** 99, -10 ** 99)
STRINGS = ("", " ", "0", "01", "-", "0+", "01-", "a", "\n", "size 1", "~" * 2000)
NO_SIZES = NOTHING_VALID + STRINGS + ((), (0,), (1,), 0, -1, 9, 10, 10 ** 99, -10 ** 99)
NO_NUMBERS = NOTHING_VALID + STRINGS + ((), (0,), -1, -2, -10 ** 99)
NO_DECKS = NOTHING_VALID + STRINGS + INTEGERS + ((0,) * 61, (8,), (0, 8), (0, 1, 9), (7, 10 ** 99), [7] * 60)
NO_THROWS = NOTHING_VALID + STRINGS + INTEGERS + (
    (),
    ((),), (((), 1),), (((0,), 1), ((), 1)),                              # a lot without a kind
    (((1,), 1),), (((0, 2), 1),), (((0,), 1), ((2,), 1)),                 # a kind is lacking
    (((0, 1), 1), ((1,), 1)), (((0,), 1), ((0,), 1)), (((0, 0), 1),),     # a kind stands twice
    (((1, 0), 1),), (((0, 2, 1), 1),),                                    # a lot is not ascending
    (((0,), 0),), (((0,), 2),), (((0,), -2),), (((0,), 10 ** 99),),       # other signs
    (((0,), True),), (((0,), None),), (((0,), "+"),), (((0,), (1,)),), (((0,), [1]),),
    (((False,), 1),), (((0, True), 1),), (((0,), 1), ((True,), 1)),       # bools for kinds
    (((-1,), 1), ((0,), 1)), (((-1, 0), 1),), (((0, 10 ** 99), 1),),
    ((tuple(range(9)), 1),), (((8,), 1), (tuple(range(8)), 1)),           # nine kinds
    tuple(((kind,), 1) for kind in range(9)), ((tuple(range(2000)), 1),),
    [((0,), 1)], ([(0,), 1],), (([0], 1),), {((0,), 1): 1}, (((0,), 1), [(1,), 1]),
    ((0,), 1), (((0,), 1, 1),), (((0,),),), ((1, (0,)),), (((0,), 1), None), (((0,), 1), 1),
    ((((0,),), 1),), ((((0,), 1), 1),), (("0", 1),), ((0, 1),), ((None, 1),), (({0: 1}, 1),), (((0, "1"), 1),),
    (((0, None), 1),), (((0, (1,)), 1),), ("0+",), ("01", 1), (((0,), 1), "1+"),
)
# What is put in the place of a part of a value that is right.
ODD_PARTS = (
    BENCH, None, True, False, 0, 1, 2, 3, -1, 10 ** 99, "", "a", "throw", "tray", (), (0,), [], {}, ((0, 1), 1),
)
SORT = (((0, 2), 1), ((1,), -1))
SINGLES = tuple(((kind,), 1 - kind % 2 * 2) for kind in range(8))


def all_throws(size):
    """All throws of a size, made by trying all rows of all kinds and all places to part them."""
    found = set()
    for kinds in permutations(range(size)):
        for cuts in product((False, True), repeat=size - 1):
            lots = [[kinds[0]]]
            for kind, cut in zip(kinds[1:], cuts):
                if cut:
                    lots.append([])
                lots[-1].append(kind)
            for signs in product((1, -1), repeat=len(lots)):
                found.add(tuple((tuple(sorted(lot)), sign) for lot, sign in zip(lots, signs)))
    return sorted(found)


THROWS = {size: all_throws(size) for size in (1, 2, 3)}


def drawn_throw(size, draw):
    """A throw of a size that a random.Random draws."""
    lots = {}
    for kind in range(size):
        lots.setdefault(draw.randrange(size), []).append(kind)
    rows = [(tuple(lot), draw.choice((1, -1))) for lot in lots.values()]
    draw.shuffle(rows)
    return tuple(rows)


def telling_deck(size):
    """A deck in which each kind stands ahead of each, itself included: no two throws give it the same order."""
    return tuple(range(size)) + tuple(range(size))[::-1]


def near(value):
    """Values that differ from a tuple in one part: it is another one, is left out, exchanged or repeated."""
    yield from (list(value), value[1:], value[:-1], value[::-1], value + value, value + value[-1:], (value,))
    for at, part in enumerate(value):
        others = list(near(part)) if isinstance(part, tuple) else []
        if isinstance(part, int):
            others += [-part, part + 1, part - 1, str(part)]
        for other in (*others, *ODD_PARTS):
            yield value[:at] + (other,) + value[at + 1:]


class Case(unittest.TestCase):
    """A test case that can check refusals."""

    def refused(self, error, value, function, *args, **named):
        """The call raises just this error with this very value, and changes no argument."""
        caught = self.raised(error, function, *args, **named)
        self.assertIs(caught.thing, value)

    def refused_text(self, at, function, *args, **named):
        """The call raises BadText with this very integer."""
        from lotthrows.errors import BadText
        caught = self.raised(BadText, function, *args, **named)
        self.assertEqual(repr(caught.at), repr(at), (args, named))

    def raised(self, error, function, *args, **named):
        before = repr((args, named))
        try:
            result = function(*args, **named)
        except Exception as caught:
            self.assertIs(type(caught), error, before)
            self.assertEqual(repr((args, named)), before)
            return caught
        self.fail(f"{function.__name__} returned {result!r} for {before}")

    def only_right_ones_hold(self, right, candidates, judged, function, *args):
        """Of the candidates, of what is near to the judged certificate, and of odd values just the right ones hold."""
        right = {repr(thing) for thing in right}
        before = repr(args)
        self.assertIn(repr(judged), right, before)
        for thing in (*candidates, judged, *near(judged), *NOTHING_VALID, *STRINGS, *INTEGERS, ()):
            self.told(repr(thing) in right, function(*args, thing), f"{args} {thing!r}"[:2000])
        self.assertEqual(repr(args), before)

    def just_these_hold(self, is_right, candidates, judged, function, *args):
        """As only_right_ones_hold, where a function tells of any value whether it is right."""
        self.assertTrue(is_right(judged), (args, judged))
        things = (*candidates, judged, *near(judged), *NOTHING_VALID, *STRINGS, *INTEGERS, ())
        self.only_right_ones_hold([thing for thing in things if is_right(thing)], candidates, judged, function, *args)

    def told(self, expected, result, about=None):
        """The result is equal, and of the same kinds throughout (True is not 1)."""
        self.assertEqual(repr(result), repr(expected), about)

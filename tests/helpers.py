"""What the tests share: values of every odd kind, and how a refusal is checked."""

import unittest


def nested(depth):
    """A tuple within a tuple, and so on."""
    value = 0
    for _ in range(depth):
        value = (value,)
    return value


# None of these is an integer, a string, a deck, an order or a throw.
NOTHING_VALID = (
    None, True, False, [], [0], [0, 1], {}, {0: 0}, {"a": [1, (2, None)]}, (None,), (True,), (False,), (0, True),
    (False, 1), ("0",), ("",), ([0],), ([],), ((),), ((0,),), (((0,),),), (-1,), (10 ** 99,), (-10 ** 99,), (0, -1),
    (0, [1]), ((0,), 1), [((0,), 1)], (((0,), True),), ({},), ({"a": 1}, 0), (0,) * 1999 + (8,), nested(12),
    [[[[]]]], (0, None), ("a", 1, None, True, (), [], {}),
)
INTEGERS = (0, 1, 2, 3, 7, -1, -2, 10 ** 99, -10 ** 99)
STRINGS = ("", " ", "0", "01", "-", "0+", "01-", "a", "\n", "size 1", "~" * 2000)


class Case(unittest.TestCase):
    """A test case that can check refusals."""

    def refused(self, error, value, function, *args, **named):
        """The call raises just this error with this very value, and changes no argument."""
        caught = self.raised(error, function, *args, **named)
        self.assertIs(caught.thing, value)

    def refused_text(self, at, function, *args, **named):
        """The call raises BadText with this very integer."""
        from lotthrows.errors import BadText
        caught = self.raised(BadText, function, *args, **named)
        self.assertEqual(repr(caught.at), repr(at), (args, named))

    def raised(self, error, function, *args, **named):
        before = repr((args, named))
        try:
            result = function(*args, **named)
        except Exception as caught:
            self.assertIs(type(caught), error, before)
            self.assertEqual(repr((args, named)), before)
            return caught
        self.fail(f"{function.__name__} returned {result!r} for {before}")

    def told(self, expected, result):
        """The result is equal, and of the same kinds throughout (True is not 1)."""
        self.assertEqual(repr(result), repr(expected))

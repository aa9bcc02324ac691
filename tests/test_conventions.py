import unittest
from itertools import permutations

from lotthrows import decks, throws
from lotthrows.errors import BadDeck, BadKind, BadNumber, BadOrder, BadSize, BadThrow
from helpers import Case

SORT = (((0, 2), 1), ((1,), -1))
DECK = (1, 0, 2, 1, 0)

# The function, its arguments in the order of its parameters, and its result.
CALLS = (
    (decks.is_deck, {"size": 3, "thing": DECK}, True),
    (decks.is_deck, {"size": 3, "thing": [0, {}, None]}, False),
    (decks.is_order, {"n": 2, "thing": (1, 0)}, True),
    (decks.is_order, {"n": 2, "thing": [1, [0]]}, False),
    (decks.laid, {"deck": DECK, "order": (1, 2, 4, 3, 0)}, (0, 2, 0, 1, 1)),
    (decks.together, {"one": (1, 2, 0), "other": (2, 1, 0)}, (0, 2, 1)),
    (decks.undone_order, {"order": (1, 2, 0)}, (2, 0, 1)),
    (decks.opposite, {"order": (1, 2, 0)}, (0, 2, 1)),
    (decks.counts_of, {"size": 3, "deck": DECK}, (2, 2, 1)),
    (decks.deck_text, {"deck": DECK}, "10210"),
    (decks.read_deck, {"text": "10210"}, DECK),
    (throws.is_throw, {"thing": SORT}, True),
    (throws.is_throw, {"thing": [list(SORT), {0: SORT}]}, False),
    (throws.size_of, {"throw": SORT}, 3),
    (throws.still, {"size": 2}, (((0, 1), 1),)),
    (throws.turning, {"size": 2}, (((0, 1), -1),)),
    (throws.lot_of, {"throw": SORT, "kind": 1}, 1),
    (throws.way_of, {"throw": SORT, "a": 0, "b": 1}, "ahead"),
    (throws.order_after, {"throw": SORT, "deck": DECK}, (1, 2, 4, 3, 0)),
    (throws.deck_after, {"throw": SORT, "deck": DECK}, (0, 2, 0, 1, 1)),
    (throws.throw_text, {"throw": SORT}, "02+ 1-"),
    (throws.read_throw, {"text": "02+ 1-"}, SORT),
)

# The function, and its parameters in order with a value that is none, and the error of each.
REFUSALS = (
    (decks.is_deck, (("size", [], BadSize), ("thing", [], None))),
    (decks.is_order, (("n", [], BadNumber), ("thing", [], None))),
    (decks.laid, (("deck", [], BadDeck), ("order", [[]], BadOrder))),
    (decks.together, (("one", [], BadOrder), ("other", [[]], BadOrder))),
    (decks.undone_order, (("order", [], BadOrder),)),
    (decks.opposite, (("order", [], BadOrder),)),
    (decks.counts_of, (("size", [], BadSize), ("deck", [[]], BadDeck))),
    (decks.deck_text, (("deck", [], BadDeck),)),
    (throws.size_of, (("throw", [], BadThrow),)),
    (throws.still, (("size", [], BadSize),)),
    (throws.turning, (("size", [], BadSize),)),
    (throws.lot_of, (("throw", [], BadThrow), ("kind", [[]], BadKind))),
    (throws.way_of, (("throw", [], BadThrow), ("a", [[]], BadKind), ("b", {0: []}, BadKind))),
    (throws.order_after, (("throw", [], BadThrow), ("deck", [[]], BadDeck))),
    (throws.deck_after, (("throw", [], BadThrow), ("deck", [[]], BadDeck))),
    (throws.throw_text, (("throw", [], BadThrow),)),
)


class ConventionsTest(Case):
    def test_by_position_and_by_name(self):
        for function, arguments, result in CALLS:
            self.told(result, function(*arguments.values()))
            for names in permutations(arguments):
                self.told(result, function(**{name: arguments[name] for name in names}))

    def test_the_same_call_returns_an_equal_result_and_changes_no_argument(self):
        for function, arguments, result in CALLS:
            before = repr(arguments)
            for _ in range(3):
                self.told(result, function(**arguments))
                self.assertEqual(repr(arguments), before)

    def test_a_wrong_argument_beside_right_ones(self):
        right = {function: arguments for function, arguments, _ in CALLS if function(**arguments) is not False}
        for function, parameters in REFUSALS:
            for name, wrong, error in parameters:
                if error is not None:
                    self.refused(error, wrong, function, **{**right[function], name: wrong})

    def test_of_several_wrong_arguments_the_first_one_is_told(self):
        for function, parameters in REFUSALS:
            for first in range(len(parameters)):
                right = [arguments for called, arguments, _ in CALLS if called is function][0]
                wrongs = {name: wrong for name, wrong, _ in parameters[first:]}
                error = parameters[first][2]
                if error is not None:
                    self.refused(error, parameters[first][1], function, **{**right, **wrongs})

    def test_refusals_are_equal_whenever_they_come(self):
        for function, parameters in REFUSALS:
            wrongs = [wrong for _, wrong, _ in parameters]
            for _ in range(3):
                self.refused(parameters[0][2], wrongs[0], function, *wrongs)

    def test_functions_can_take_what_functions_return(self):
        throw = throws.read_throw(throws.throw_text(throws.still(3)))
        order = throws.order_after(throw, decks.read_deck("-"))
        self.told(((), (0, 0, 0)), (decks.laid((), decks.opposite(decks.undone_order(order))), decks.counts_of(3, order)))


if __name__ == "__main__":
    unittest.main()

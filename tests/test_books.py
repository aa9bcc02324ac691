import unittest
from itertools import permutations, product
from random import Random
from time import perf_counter

from lotthrows.books import (
    all_made, brought_holds, is_book, judge_brought, judge_reached, judge_same, made_by, reached_holds, row_lengths,
    same_holds,
)
from lotthrows.errors import BadBook, BadNumber, BadOrder, BadThrow, OtherSize
from lotthrows.rows import both, row_of
from lotthrows.throws import deck_after, is_throw, size_of, still, turning
from helpers import (
    INTEGERS, NO_THROWS, NOTHING_VALID, SORT, STRINGS, THROWS, Case, all_throws, drawn_throw, near, telling_deck,
)

TURN = ((((0, 1), -1),),)
APART = ((((0,), 1), ((1,), -1)), (((0, 1), -1),))
KEPT_TWO = (((0,), 1), ((1,), 1))
STILL, TURNED = still(2), turning(2)
FOUR = ((((0, 1), 1), ((2, 3), -1)), (((0,), 1), ((1, 2, 3), -1)), (((3,), 1), ((0, 1, 2), 1)),
        (((1, 3), -1), ((0, 2), 1)))
BOOKS = (
    TURN, APART, (STILL,), (KEPT_TWO,), (KEPT_TWO, TURNED), (TURNED, TURNED), (still(1),), (turning(1),) * 4,
    (SORT,), (SORT, turning(3)), (SORT, (((1,), 1), ((0, 2), -1)), still(3)), (SORT, SORT[::-1], turning(3), SORT),
    (still(4),), FOUR[:1], FOUR,
)
EVERY = {**THROWS, 4: all_throws(4)}
NO_BOOKS = NOTHING_VALID + STRINGS + INTEGERS + (
    (), (STILL,) * 5, (still(5),), (still(4), still(5)), (STILL, still(1)), (STILL, STILL, STILL, still(3)), [STILL],
    [STILL, TURNED], STILL, (STILL, None), (STILL, ()), (STILL, [((0, 1), 1)]), (STILL, (((0, 1), True),)), {0: STILL},
    ("01+",), "01+", ((STILL,),), (STILL, (STILL,)), (still(8),), (STILL, 0), ((((0, 1), 1), ((1,), 1)),),
    (still(1), still(8)),
)
NO_NUMBERS_OF_TWO = NOTHING_VALID + STRINGS + INTEGERS + (
    (2,), (-1,), (0, 2), (0, 1, -1), (0,) * 61, (0, 1) * 1000, [0, 1], (True,), (0, False), ("0",), ((0,),), (0, None),
    (0, [1]), {0: 1}, "01", (10 ** 99,), (0, -10 ** 99), (0, "1"), ({},),
)
NO_ORDERS_OF_TWO = NOTHING_VALID + STRINGS + INTEGERS + (
    (), (0,), (1,), (0, 0), (1, 1), (0, 2), (1, 2), (0, 1, 2), (1, 0, 0), [0, 1], (0, True), (False, 1), ("0", "1"),
    (-1, 0), ((0, 1),), (0, None), {0: 1, 1: 0}, "01",
)


def lengths_by_rounds(book):
    """For each throw that rows of a book make the length of a shortest one, by making rows one number longer."""
    found = {still(size_of(book[0])): 0}
    length = 0
    while length in found.values():
        for throw in [throw for throw, known in found.items() if known == length]:
            for behind in book:
                found.setdefault(both(throw, behind), length + 1)
        length += 1
    return found


def made_by_all_rows(book, longest):
    """For each throw that rows of at most so many numbers make the length of a shortest one, by making all rows."""
    found = {}
    size = size_of(book[0])
    for length in range(longest + 1):
        for numbers in product(range(len(book)), repeat=length):
            found.setdefault(row_of(size, tuple(book[number] for number in numbers)), length)
    return found


def drawn_book(draw, size=None):
    size = size or draw.randrange(1, 5)
    return tuple(drawn_throw(size, draw) for _ in range(draw.randrange(1, 5)))


def brings(throw, kinds):
    """Whether a throw lays a deck with two cards of each kind, in any order, in the told order."""
    decks = (telling_deck(len(kinds)), tuple(range(len(kinds))) * 2, tuple(range(len(kinds)))[::-1] * 2)
    return all(deck_after(throw, deck) == tuple(kind for kind in kinds for _ in range(2)) for deck in decks)


def is_closed(book, throws):
    """Whether ascending throws have the still one, and each of them and then a throw of the book."""
    return list(throws) == sorted(set(throws)) and still(size_of(book[0])) in throws and (
        all(both(throw, behind) in throws for throw in throws for behind in book))


class IsBookTest(Case):
    def test_the_examples(self):
        self.told([True, False], [is_book(TURN), is_book(())])

    def test_numbers_of_throws_and_sizes(self):
        for size in range(1, 9):
            for length in range(7):
                self.told(size <= 4 and 1 <= length <= 4, is_book((still(size),) * length))
                self.told(size <= 4 and 0 <= length <= 2, is_book((still(size),) * length + (turning(size),) * 2))

    def test_throws_of_one_size(self):
        for sizes in product((1, 2, 3, 4, 5), repeat=3):
            self.told(len(set(sizes)) == 1 and sizes[0] < 5, is_book(tuple(still(size) for size in sizes)))

    def test_any_value_that_is_none(self):
        for thing in NO_BOOKS + tuple((throw,) for throw in NO_THROWS) + tuple((STILL, throw) for throw in NO_THROWS):
            self.told(False, is_book(thing))

    def test_values_near_to_one(self):
        right = {repr(throw) for throw in THROWS[2]}
        others = {repr(throw) for throw in THROWS[1]}
        for thing in near(APART):
            held = isinstance(thing, tuple) and 1 <= len(thing) <= 4 and any(
                all(repr(throw) in throws for throw in thing) for throws in (right, others))
            self.told(held, is_book(thing), thing)


class MadeTest(Case):
    def test_the_examples(self):
        self.told([((((0, 1), -1),), (((0, 1), 1),)), (((((0, 1), -1),), 1), ((((0, 1), 1),), 0)),
                   (((1,), 1), ((0,), -1))],
                  [all_made(TURN), row_lengths(TURN), made_by(APART, (0, 1))])

    def test_rows_of_numbers(self):
        draw = Random(91)
        for book in BOOKS:
            size = size_of(book[0])
            self.told(still(size), made_by(book, ()))
            for length in (1, 2, 3, 60):
                numbers = tuple(draw.randrange(len(book)) for _ in range(length))
                throw = made_by(book, numbers)
                self.told(row_of(size, tuple(book[number] for number in numbers)), throw)
                deck = telling_deck(size)
                for number in numbers:
                    deck = deck_after(book[number], deck)
                self.told(deck, deck_after(throw, telling_deck(size)))

    def test_sixty_numbers_and_sixty_one(self):
        self.told([STILL, TURNED], [made_by(TURN, (0,) * 60), made_by(TURN, (0,) * 59)])
        for numbers in ((0,) * 61, (0,) * 62):
            self.refused(BadNumber, numbers, made_by, TURN, numbers)

    def test_all_throws_and_shortest_rows(self):
        draw = Random(92)
        for book in BOOKS + tuple(drawn_book(draw) for _ in range(40)):
            found = lengths_by_rounds(book)
            self.told(tuple(sorted(found)), all_made(book))
            self.told(tuple(sorted(found.items())), row_lengths(book))
            for throw, length in made_by_all_rows(book, 3).items():
                self.assertEqual(found[throw], length)

    def test_rows_of_up_to_four_numbers(self):
        draw = Random(93)
        for book in BOOKS[:12] + tuple(drawn_book(draw) for _ in range(12)):
            by_rows = made_by_all_rows(book, 4)
            for throw, length in row_lengths(book):
                self.told(length, by_rows.get(throw, length if length > 4 else None))
            self.assertTrue(set(by_rows) <= set(all_made(book)))
            for throw, length in by_rows.items():
                kind, numbers = judge_reached(book, throw)
                self.told(["row", length, throw], [kind, len(numbers), made_by(book, numbers)])

    def test_a_throw_twice_makes_nothing_more(self):
        for book in BOOKS[:6]:
            self.told(row_lengths(book), row_lengths(book + book[:4 - len(book)]))

    def test_any_value_that_is_no_book(self):
        for book in NO_BOOKS:
            for function, more in ((made_by, ((),)), (all_made, ()), (row_lengths, ()), (judge_reached, (STILL,)),
                                   (reached_holds, (STILL, ("row", ()))), (judge_brought, ((0, 1),)),
                                   (brought_holds, ((0, 1), None)), (judge_same, (TURN,)),
                                   (same_holds, (TURN, ("same",)))):
                self.refused(BadBook, book, function, book, *more)
                self.refused(BadBook, book, function, book, *([None] * len(more)))

    def test_any_value_that_is_no_row_of_numbers(self):
        for numbers in NO_NUMBERS_OF_TWO:
            self.refused(BadNumber, numbers, made_by, APART, numbers)
        self.refused(BadNumber, (1,), made_by, TURN, (1,))


class ReachedTest(Case):
    def test_the_examples(self):
        self.told([('row', ()), 'closed', True],
                  [judge_reached(TURN, (((0, 1), 1),)), judge_reached(TURN, (((0,), 1), ((1,), 1)))[0],
                   reached_holds(TURN, (((0,), 1), ((1,), 1)), ('closed', ((((0, 1), -1),), (((0, 1), 1),))))])

    def test_all_throws_of_the_size(self):
        draw = Random(94)
        for book in BOOKS[:12] + tuple(drawn_book(draw, size) for size in (1, 2, 3) for _ in range(3)):
            found = lengths_by_rounds(book)
            for throw in THROWS[size_of(book[0])]:
                judged = judge_reached(book, throw)
                self.told(True, reached_holds(book, throw, judged))
                if throw in found:
                    self.told(["row", found[throw], throw], [judged[0], len(judged[1]), made_by(book, judged[1])])
                else:
                    self.told(["closed", True, False], [judged[0], is_closed(book, judged[1]), throw in judged[1]])
                self.told(throw not in found, reached_holds(book, throw, ("closed", tuple(sorted(found)))))

    def test_just_the_right_certificates_hold(self):
        for book, throw in ((TURN, STILL), (TURN, TURNED), (TURN, KEPT_TWO), (APART, (((1,), 1), ((0,), -1))),
                            ((STILL,), TURNED), ((still(1),), turning(1)), ((turning(1),), turning(1))):
            size = size_of(book[0])
            found = lengths_by_rounds(book)
            rows = [numbers for length in range(4) for numbers in product(range(-1, len(book) + 1), repeat=length)]
            sets = [tuple(throw for at, throw in enumerate(THROWS[size]) if number >> at & 1)
                    for number in range(2 ** len(THROWS[size]))]
            right = [("closed", throws) for throws in sets if throw not in throws and is_closed(book, throws)]
            right += [("row", numbers) for numbers in rows if set(numbers) <= set(range(len(book)))
                      and len(numbers) == found.get(throw) and made_by(book, numbers) == throw]
            candidates = [("row", numbers) for numbers in rows] + [("closed", throws) for throws in sets]
            self.only_right_ones_hold(right, candidates, judge_reached(book, throw), reached_holds, book, throw)

    def test_rows_that_are_too_long(self):
        self.told([True, False, False, False, False],
                  [reached_holds(TURN, TURNED, ("row", numbers)) for numbers in ((0,), (0, 0, 0), (), (0,) * 59,
                                                                                 (0,) * 61)])
        self.told([True, True, False, False], [reached_holds(TURN * 2, TURNED, ("row", numbers))
                                               for numbers in ((0,), (1,), (2,), (True,))])

    def test_closed_tuples_otherwise(self):
        closed = all_made(FOUR[:2])
        barred = [throw for throw in EVERY[4] if throw not in closed][::97]
        for throw in barred:
            self.told([True, False, False, False, False, False],
                      [reached_holds(FOUR[:2], throw, ("closed", throws))
                       for throws in (closed, closed[::-1], closed + closed[-1:], list(closed),
                                      tuple(sorted(closed + (throw,))),
                                      tuple(other for other in closed if other != still(4)))])
            for at in range(len(closed)):
                self.told(False, reached_holds(FOUR[:2], throw, ("closed", closed[:at] + closed[at + 1:])))
        reached = closed[3]
        self.told([False, False], [reached_holds(FOUR[:2], reached, ("closed", throws))
                                   for throws in (closed, closed[:3] + closed[4:])])
        wide = tuple(throw for throw in THROWS[3] if throw != THROWS[3][0])
        self.told(True, reached_holds((still(3),), THROWS[3][0], ("closed", wide)))
        self.told(False, reached_holds((SORT,), THROWS[3][0], ("closed", tuple(sorted(wide + (still(2),))))))

    def test_any_value_that_is_no_throw_and_throws_of_another_size(self):
        for throw in NO_THROWS:
            self.refused(BadThrow, throw, judge_reached, APART, throw)
            self.refused(BadThrow, throw, reached_holds, APART, throw, None)
        for throw in (still(1), still(3), SORT, turning(8), still(5)):
            self.refused(OtherSize, throw, judge_reached, APART, throw)
            self.refused(OtherSize, throw, reached_holds, APART, throw, ("row", ()))


class BroughtTest(Case):
    def test_the_examples(self):
        self.told([('row', (0, 1)), 'closed', False],
                  [judge_brought(APART, (1, 0)), judge_brought(TURN, (0, 1))[0],
                   brought_holds(APART, (0, 1), ('row', (1, 0)))])

    def test_all_orders_of_the_kinds(self):
        draw = Random(95)
        kinds_told = set()
        for book in BOOKS + tuple(drawn_book(draw, size) for size in (1, 2, 3, 4, 4) for _ in range(4)):
            found = lengths_by_rounds(book)
            for kinds in permutations(range(size_of(book[0]))):
                lengths = [length for throw, length in found.items() if brings(throw, kinds)]
                judged = judge_brought(book, kinds)
                kinds_told.add(judged[0])
                self.told(True, brought_holds(book, kinds, judged))
                self.told(lengths == [], brought_holds(book, kinds, ("closed", tuple(sorted(found)))))
                if lengths:
                    self.told(["row", min(lengths), True],
                              [judged[0], len(judged[1]), brings(made_by(book, judged[1]), kinds)])
                else:
                    self.told(["closed", True], [judged[0], is_closed(book, judged[1])])
                    self.assertFalse([throw for throw in judged[1] if brings(throw, kinds)])
        self.assertEqual(kinds_told, {"row", "closed"})

    def test_one_kind_is_in_order(self):
        for book in ((still(1),), (turning(1),) * 4):
            self.told(("row", ()), judge_brought(book, (0,)))

    def test_just_the_right_certificates_hold(self):
        for book, kinds in ((APART, (0, 1)), (APART, (1, 0)), (TURN, (0, 1)), ((KEPT_TWO, TURNED), (1, 0)),
                            ((KEPT_TWO,), (1, 0)), ((turning(1),), (0,))):
            size = size_of(book[0])
            lengths = [length for throw, length in lengths_by_rounds(book).items() if brings(throw, kinds)]
            rows = [numbers for length in range(4) for numbers in product(range(-1, len(book) + 1), repeat=length)]
            sets = [tuple(throw for at, throw in enumerate(THROWS[size]) if number >> at & 1)
                    for number in range(2 ** len(THROWS[size]))]
            right = [("closed", throws) for throws in sets if is_closed(book, throws)
                     and not any(brings(throw, kinds) for throw in throws)]
            right += [("row", numbers) for numbers in rows if set(numbers) <= set(range(len(book)))
                      and len(numbers) == min(lengths, default=None) and brings(made_by(book, numbers), kinds)]
            candidates = [("row", numbers) for numbers in rows] + [("closed", throws) for throws in sets]
            self.only_right_ones_hold(right, candidates, judge_brought(book, kinds), brought_holds, book, kinds)

    def test_any_value_that_is_no_order_of_the_kinds(self):
        for kinds in NO_ORDERS_OF_TWO:
            self.refused(BadOrder, kinds, judge_brought, APART, kinds)
            self.refused(BadOrder, kinds, brought_holds, APART, kinds, None)


class SameTest(Case):
    def test_the_examples(self):
        self.told(['first', ('same',)], [judge_same(APART, TURN)[0], judge_same(TURN, TURN)])

    def test_books_against_all_they_make(self):
        draw = Random(96)
        books = BOOKS + tuple(drawn_book(draw, size) for size in (1, 2, 3, 4) for _ in range(4))
        made = {book: set(lengths_by_rounds(book)) for book in books}
        told = set()
        for one, other in product(books, repeat=2):
            if size_of(one[0]) != size_of(other[0]):
                continue
            judged = judge_same(one, other)
            told.add(judged[0])
            self.told(True, same_holds(one, other, judged))
            self.told(made[one] == made[other], judged == ("same",))
            self.told(made[one] == made[other], same_holds(one, other, ("same",)))
            if judged != ("same",):
                self.assertIn(judged[1], made[one] ^ made[other])
            for throw in EVERY[size_of(one[0])][::1 if size_of(one[0]) < 3 else 31]:
                self.told([throw in made[one] - made[other], throw in made[other] - made[one]],
                          [same_holds(one, other, (word, throw)) for word in ("first", "second")])
        self.assertEqual(told, {"same", "first", "second"})

    def test_just_the_one_or_just_the_other_makes_more(self):
        self.told(["first", "second", "same", "same"],
                  [judge_same(APART, TURN)[0], judge_same(TURN, APART)[0], judge_same(APART, APART[::-1])[0],
                   judge_same((STILL, TURNED), TURN)[0]])
        both_more = ((KEPT_TWO,), TURN)
        self.assertIn(judge_same(*both_more)[0], ("first", "second"))
        self.told([True, True, False, False], [same_holds(*both_more, thing) for thing in (
            ("first", KEPT_TWO), ("second", TURNED), ("first", TURNED), ("second", KEPT_TWO))])

    def test_just_the_right_certificates_hold(self):
        for one, other in ((APART, TURN), (TURN, APART), (TURN, TURN), ((KEPT_TWO,), TURN),
                           ((still(1),), (turning(1),)),
                           (APART, APART[::-1])):
            size = size_of(one[0])
            made = set(lengths_by_rounds(one)), set(lengths_by_rounds(other))
            right = [("first", throw) for throw in made[0] - made[1]] + [("second",
                                                                          throw) for throw in made[1] - made[0]]
            right += [] if right else [("same",)]
            candidates = [(word, throw) for word in ("first", "second",
                                                     "same") for throw in THROWS[size] + THROWS[3][:9]]
            candidates += [("same",), ("first",), ("second",)]
            self.only_right_ones_hold(right, candidates, judge_same(one, other), same_holds, one, other)

    def test_any_value_that_is_no_book_and_books_of_another_size(self):
        for book in NO_BOOKS:
            self.refused(BadBook, book, judge_same, TURN, book)
            self.refused(BadBook, book, same_holds, TURN, book, None)
        for book in ((still(1),), (SORT,), FOUR):
            self.refused(OtherSize, book, judge_same, TURN, book)
            self.refused(OtherSize, book, same_holds, TURN, book, ("same",))
            self.refused(OtherSize, TURN, judge_same, book, TURN)


class LargeBooksTest(Case):
    def test_books_of_size_four_answer_at_once(self):
        started = perf_counter()
        throws = EVERY[4]
        sorting = tuple(((kind,), 1) for kind in (2, 0, 3, 1))
        for book in (FOUR, (turning(4), (((0, 1), 1), ((2, 3), -1)), (((0, 2), -1), ((1, 3), 1)),
                            (((3,), -1), ((0, 1, 2), 1)))):
            made = all_made(book)
            self.assertGreater(len(made), 100)
            self.told(made, tuple(throw for throw, _ in row_lengths(book)))
            for throw in throws[::50]:
                judged = judge_reached(book, throw)
                self.told([throw in made, True], [judged[0] == "row", reached_holds(book, throw, judged)])
            self.told(True, brought_holds(book, (2, 0, 3, 1), judge_brought(book, (2, 0, 3, 1))))
            self.told(True, same_holds(book, (sorting,), judge_same(book, (sorting,))))
        whole = tuple(throw for throw in throws if throw != throws[5])
        self.told(True, reached_holds((still(4),) * 4, throws[5], ("closed", whole)))
        self.assertLess(perf_counter() - started, 4)

    def test_what_is_made_are_throws_of_the_size(self):
        for book in BOOKS:
            for throw in all_made(book):
                self.told([True, size_of(book[0])], [is_throw(throw), size_of(throw)])


if __name__ == "__main__":
    unittest.main()

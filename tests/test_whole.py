"""What the document promises over the whole program: its parts go together."""

import unittest
from itertools import permutations, product
from random import Random

from lotthrows.benches import Bench, read_bench
from lotthrows.books import all_made, is_book, judge_brought, judge_reached, judge_same, made_by, row_lengths
from lotthrows.decks import counts_of, is_deck, is_order, laid, read_deck, deck_text, together, undone_order
from lotthrows.facts import facts_hold, fits, fitting_throws, judge_facts, judge_way, way_holds, ways_left
from lotthrows.folded import code_at, codes_number, folded_word, is_code
from lotthrows.numbers import alike_number, decks_number, number_of, outcomes_number, throw_at, throws_number
from lotthrows.outcomes import all_in, can_come, went_in
from lotthrows.plans import fewest, is_plan, judge_made, plan_for, throw_of_plan
from lotthrows.probes import judge_test, least_test, looks_left
from lotthrows.programs import ends, is_program, judge_alike, judge_sorted, sorted_holds
from lotthrows.rows import both, judge_ahead, judge_behind, judge_undone, power, row_of
from lotthrows.runs import is_run, order_by, run_to
from lotthrows.sheets import is_sheet, sheet_for, throw_by
from lotthrows.tables import is_table, judge_table, order_by_table, table_of
from lotthrows.throws import (
    deck_after, is_throw, order_after, read_throw, size_of, still, throw_text, turning, way_of,
)
from lotthrows.trees import best_tree, handlings, is_tree, least_handlings, order_by_tree
from lotthrows.words import is_choice, judge_words, throw_of
from helpers import THROWS, Case, drawn_throw, telling_deck

PAIR, SIX = ("tray", "pile"), ("tray", "pile") * 3


def called(names, kinds):
    """Kinds by the names that they are given."""
    return tuple(names[kind] for kind in kinds)


def throw_called(names, throw):
    return tuple((tuple(sorted(called(names, lot))), sign) for lot, sign in throw)


def lot_counts(throw, deck):
    return tuple(sum(deck.count(kind) for kind in lot) for lot, _ in throw)


def drawn_deck(size, cards, draw):
    return tuple(draw.choices(range(size), k=cards))


class SameThrowTest(Case):
    def test_sheets_rows_plans_trees_tables_and_programs_come_to_the_same(self):
        draw = Random(131)
        for size in (1, 2, 3, 4, 8, 8):
            for cards in (0, 7, 24, 60):
                deck, throw = drawn_deck(size, cards, draw), drawn_throw(size, draw)
                by_throw, by_sheets, by_row = Bench(size, deck), Bench(size, deck), Bench(size, deck)
                by_throw.thrown(throw)
                desks = (PAIR,) * fewest(PAIR, throw)
                plan = plan_for(desks, throw)
                for desk, sheet in zip(desks, plan):
                    by_sheets.sheeted(desk, sheet)
                    by_row.thrown(throw_by(desk, sheet))
                self.told(throw, throw_of_plan(size, desks, plan))
                self.told(throw, row_of(size, tuple(throw_by(desk, sheet) for desk, sheet in zip(desks, plan))))
                tree = best_tree(SIX, throw, lot_counts(throw, deck))
                program = ("row", tuple(("throw", throw_by(desk, sheet)) for desk, sheet in zip(desks, plan)))
                order = by_throw.order()
                self.told([throw] * 3, [by_throw.done(), by_sheets.done(), by_row.done()])
                self.told([order] * 7, [
                    by_sheets.order(), by_row.order(), order_after(throw, deck), order_by_tree(SIX, throw, tree, deck),
                    order_by_table(table_of(throw), deck), order_by(size, program, deck, ((),) * len(desks)),
                    order_by(size, ("throw", throw), deck, ())])
                self.told([True] * 2, [by_throw.is_same(by_sheets), by_throw.is_same(by_row)])
                self.told([by_throw.deck()] * 2, [deck_after(throw, deck), laid(deck, order)])
                self.told(True, can_come(throw, by_throw.deck()))

    def test_rows_of_deeds_are_rows_of_throws(self):
        draw = Random(132)
        for size in (1, 3, 4):
            throws = tuple(drawn_throw(size, draw) for _ in range(20))
            bench = Bench(size, drawn_deck(size, 30, draw))
            orders = [bench.order()]
            for throw in throws:
                orders.append(together(orders[-1], order_after(throw, bench.deck())))
                bench.thrown(throw)
                self.told(orders[-1], bench.order())
            self.told(row_of(size, throws), bench.done())
            book = throws[:4]
            numbers = tuple(draw.randrange(4) for _ in range(20))
            made = row_of(size, tuple(book[number] for number in numbers))
            self.told([made, True], [made_by(book, numbers), made in all_made(book)])
            word = "".join("abcd"[number] for number in numbers)
            self.told(made, throw_of(word, book + (still(size),)))
            same = Bench(size, drawn_deck(size, 30, draw))
            for times in range(4):
                self.told(power(throws[0], times), same.done())
                same.thrown(throws[0])

    def test_claims_of_a_bench_go_with_what_is_sure_of_its_throw(self):
        draw = Random(133)
        for size in (2, 3, 4):
            for kinds in permutations(range(size)):
                throw = drawn_throw(size, draw)
                surely = judge_sorted(size, ("throw", throw), kinds) == ("sure",)
                bench = Bench(size, telling_deck(size))
                bench.thrown(throw)
                if surely:
                    bench.claim(("sorted", kinds))
                self.told(surely, bench.claims() == (("sorted", kinds),))
                self.told(surely, judge_brought((throw,), kinds) in (("row", ()), ("row", (0,))))


class TakenTest(Case):
    def test_what_is_returned_is_taken_where_its_kind_is_asked_for(self):
        draw = Random(134)
        for size in (1, 2, 3, 4):
            for _ in range(6):
                one, other = drawn_throw(size, draw), drawn_throw(size, draw)
                deck = drawn_deck(size, 6, draw)
                for throw in (both(one, other), power(one, 2), read_throw(throw_text(one)), still(size), turning(size),
                              throw_at(size, draw.randrange(throws_number(size))), row_of(size, (one, other) * 3)):
                    self.told([True, size, throw], [is_throw(throw), size_of(throw), throw_at(size, number_of(throw))])
                self.told(True, is_table(table_of(one)))
                self.told(("throw", one), judge_table(table_of(one)))
                after = deck_after(one, deck)
                self.told([True, True, True, deck], [is_deck(size, after), is_order(6, order_after(one, deck)),
                                                     can_come(one, after),
                                                     laid(after, undone_order(order_after(one, deck)))])
                for gone_in in all_in(one, after, most=720):
                    self.told(after, deck_after(one, gone_in))
                self.told([went_in(one, after), deck],
                          [alike_number(one, counts_of(size, deck)), read_deck(deck_text(deck))])
                sheet = sheet_for(SIX, one)
                if sheet is not None:
                    self.told([True, one], [is_sheet(SIX, sheet), throw_by(SIX, sheet)])
                kind, codes = judge_made((SIX, SIX), one)
                self.told([True] * (len(codes) + 1), [is_code((SIX, SIX), code) for code in codes] + [kind == "codes"])
                self.told(True, is_plan((SIX, SIX), plan_for((SIX, SIX), one)))
                for judged in (judge_undone(one), judge_behind(one, other), judge_ahead(one, other),
                               judge_facts(size, ((deck, order_after(one, deck)),))):
                    if judged[0] in ("throw", "undone"):
                        self.told([True, size], [is_throw(judged[1]), size_of(judged[1])])
                tree = best_tree(PAIR, one, (3,) * len(one))
                self.told([True, least_handlings(PAIR, one, (3,) * len(one))],
                          [is_tree(PAIR, one, tree), handlings(PAIR, one, tree, (3,) * len(one))])

    def test_certificates_hold_words_that_others_take(self):
        kind, choice, deck = judge_words("ab", "ba")
        self.told([True, True, False], [is_choice(choice), is_deck(2, deck),
                                        order_after(throw_of("ab", choice), deck) == order_after(throw_of("ba", choice),
                                                                                                 deck)])
        for size in (1, 2, 3, 4):
            deck = least_test(size)
            self.told([("tells",), True], [judge_test(size, deck), is_deck(size, deck)])
            for throw in THROWS.get(size, [still(4), turning(4)]):
                self.told((throw,), fitting_throws(size, ((deck, order_after(throw, deck)),), 1))
        for throw in THROWS[2]:
            facts = (((0, 1), order_after(throw, (0, 1))),)
            for order, number in looks_left(2, facts, (0, 0, 1)):
                more = facts + (((0, 0, 1), order),)
                self.assertEqual(len(fitting_throws(2, more, 99)), number)
        book = (THROWS[2][0], THROWS[2][3])
        self.told([True, ("same",)], [is_book(all_made(book)[:4]), judge_same(book, book[::-1])])
        for throw, length in row_lengths(book):
            self.told([throw, length], [made_by(book, judge_reached(book, throw)[1]),
                                        len(judge_reached(book, throw)[1])])

    def test_programs_of_throws_that_are_told(self):
        draw = Random(135)
        for size in (1, 2, 3):
            one, other = drawn_throw(size, draw), drawn_throw(size, draw)
            row, whole = ("row", (("throw", one), ("throw", other))), ("throw", both(one, other))
            self.told([True, ("alike",)], [is_program(size, row), judge_alike(size, row, whole)])
            for a, b in product(range(size), repeat=2):
                for end in ends(size, row, a, b):
                    run = run_to(size, row, a, b, end)
                    self.told([True, order_after(both(one, other), (a, b))],
                              [is_run(size, row, (a, b), run), order_by(size, row, (a, b), run)])

    def test_codes_and_their_signs(self):
        desks = (SIX, PAIR)
        codes = [code_at(desks, n) for n in range(codes_number(desks))]
        throw = tuple(((kind,), sign) for kind, sign in enumerate(folded_word(desks)[:8]))
        self.told(("codes", tuple(codes[:8])), judge_made(desks, throw))

    def test_numbers_of_decks(self):
        for throw in THROWS[3][::7]:
            counts = (2, 1, 2)
            come = outcomes_number(throw, counts)
            self.told(decks_number(counts), come * alike_number(throw, counts))

    def test_benches_read_from_their_texts(self):
        bench = Bench(2, least_test(2))
        bench.thrown(throw_at(2, 7))
        self.told([True, bench.done()], [read_bench(bench.text()).is_same(bench), read_bench(bench.text()).done()])


class CalledOtherwiseTest(Case):
    def test_kinds_called_otherwise_give_answers_called_otherwise(self):
        draw = Random(136)
        for size in (2, 3, 4):
            for _ in range(8):
                names = tuple(draw.sample(range(size), size))
                one, other = drawn_throw(size, draw), drawn_throw(size, draw)
                new_one, new_other = throw_called(names, one), throw_called(names, other)
                deck = drawn_deck(size, 6, draw)
                new_deck = called(names, deck)
                self.told(throw_called(names, both(one, other)), both(new_one, new_other))
                self.told([order_after(one, deck), called(names, deck_after(one, deck))],
                          [order_after(new_one, new_deck), deck_after(new_one, new_deck)])
                self.told(went_in(one, deck), went_in(new_one, new_deck))
                self.told(fewest(PAIR, one), fewest(PAIR, new_one))
                counts = lot_counts(one, deck)
                self.told(least_handlings(PAIR, one, counts), least_handlings(PAIR, new_one, counts))
                self.told([kind for kind, *_ in (judge_undone(one), judge_behind(one, other), judge_ahead(one, other))],
                          [kind for kind, *_ in (judge_undone(new_one), judge_behind(new_one, new_other),
                                                 judge_ahead(new_one, new_other))])
                self.told(judge_test(size, deck)[0], judge_test(size, new_deck)[0])
                self.told(outcomes_number(one, counts_of(size, deck)),
                          outcomes_number(new_one, counts_of(size, new_deck)))
                self.books_called(names, (one, other))
                self.facts_called(names, ((deck, order_after(one, deck)), (deck[:3], order_after(other, deck[:3]))))
                for a, b in product(range(size), repeat=2):
                    self.told(way_of(one, a, b), way_of(new_one, names[a], names[b]))
                    program, new = (("row", (("choice", (("throw", x), ("throw", y))), ("often", ("throw", x))))
                                    for x, y in ((one, other), (new_one, new_other)))
                    self.told(ends(size, program, a, b), ends(size, new, names[a], names[b]))
                order = tuple(draw.sample(range(size), size))
                judged = judge_sorted(size, program, order)
                self.told(judged[0], judge_sorted(size, new, called(names, order))[0])
                told = judged[:1] + called(names, judged[1:])
                self.told(True, sorted_holds(size, new, called(names, order), told))

    def books_called(self, names, book):
        new_book = tuple(throw_called(names, throw) for throw in book)
        self.told(sorted((throw_called(names, throw), length) for throw, length in row_lengths(book)),
                  list(row_lengths(new_book)))
        for kinds in permutations(range(len(names))):
            kind, told = judge_brought(book, kinds)
            new_kind, new_told = judge_brought(new_book, called(names, kinds))
            self.told([kind, len(told)], [new_kind, len(new_told)])

    def facts_called(self, names, facts):
        size = len(names)
        new_facts = tuple((called(names, deck), order) for deck, order in facts)
        judged = judge_facts(size, facts)
        self.told(judged[0], judge_facts(size, new_facts)[0])
        if judged[0] == "knot":
            self.told(True, facts_hold(size, new_facts, ("knot", called(names, judged[1]), *judged[2:])))
            return
        self.told(True, fits(throw_called(names, judged[1]), new_facts))
        self.told(sorted(throw_called(names, throw) for throw in fitting_throws(size, facts, 730)),
                  list(fitting_throws(size, new_facts, 730)))
        for a, b in product(range(size), repeat=2):
            self.told(ways_left(size, facts, a, b), ways_left(size, new_facts, names[a], names[b]))
            kind, *throws = judge_way(size, facts, a, b, "kept")
            self.told(True, way_holds(size, new_facts, names[a], names[b], "kept",
                                      (kind, *(throw_called(names, throw) for throw in throws))))


if __name__ == "__main__":
    unittest.main()

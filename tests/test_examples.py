"""The examples of the document, as it shows them."""

import unittest

from lotthrows.benches import Bench, read_bench
from lotthrows.books import (
    all_made, brought_holds, is_book, judge_brought, judge_reached, judge_same, made_by, reached_holds, row_lengths,
)
from lotthrows.decks import (
    counts_of, deck_text, is_deck, is_order, laid, opposite, read_deck, together, undone_order,
)
from lotthrows.errors import Unkept
from lotthrows.facts import facts_hold, fits, fitting_throws, judge_facts, judge_way, ways_left
from lotthrows.folded import are_desks, code_at, codes_number, folded_word, is_ahead, is_code, position_of, sign_of
from lotthrows.numbers import (
    alike_number, decks_number, number_of, outcomes_number, throw_at, throws_number, throws_with,
)
from lotthrows.outcomes import all_in, can_come, went_in
from lotthrows.plans import fewest, judge_made, made_holds, plan_for, sign_rows, throw_of_plan
from lotthrows.probes import judge_test, least_test, looks_left, test_holds
from lotthrows.programs import ends, is_program, judge_alike, judge_sorted, parts_of, sorted_holds
from lotthrows.rows import behind_holds, both, judge_ahead, judge_behind, judge_undone, power, row_of, undone_holds
from lotthrows.runs import is_run, order_by, run_to
from lotthrows.sheets import gathered, is_desk, is_sheet, sheet_for, throw_by
from lotthrows.tables import (
    is_ring, is_table, judge_table, order_by_table, table_holds, table_of, tables_number,
)
from lotthrows.throws import (
    deck_after, is_throw, lot_of, order_after, read_throw, size_of, still, throw_text, turning, way_of,
)
from lotthrows.trees import best_tree, handlings, is_tree, least_handlings, order_by_tree
from lotthrows.words import (
    all_plain, are_alike_kept, is_word, judge_words, last_stands, plain_number, plain_word, throw_of, words_hold,
)
from helpers import SORT, Case


class ExamplesTest(Case):
    def test_part_1(self):
        self.told(
            [True, False, True, True, False, (2, 2, 1)],
            [is_deck(2, (0, 1, 1)), is_deck(2, (0, 2)), is_deck(1, ()), is_order(3, (2, 0, 1)), is_order(2, (0, 2)),
             counts_of(3, (1, 0, 2, 1, 0))])
        self.told(
            [(0, 2, 0, 1, 1), (0, 2, 1), (2, 0, 1), (0, 2, 1), '102', ()],
            [laid((1, 0, 2, 1, 0), (1, 2, 4, 3, 0)), together((1, 2, 0), (2, 1, 0)), undone_order((1, 2, 0)),
             opposite((1, 2, 0)), deck_text((1, 0, 2)), read_deck("-")])

    def test_part_2_throws(self):
        sort = (((0, 2), 1), ((1,), -1))
        self.told(
            [True, False, 3, (1, 2, 4, 3, 0), (0, 2, 0, 1, 1), 1],
            [is_throw(sort), is_throw((((0, 1), 1), ((1,), 1))), size_of(sort), order_after(sort, (1, 0, 2, 1, 0)),
             deck_after(sort, (1, 0, 2, 1, 0)), lot_of(sort, 1)])
        self.told(
            ['ahead', 'behind', 'kept', 'turned', (((0, 1), 1),), (((0,), -1),), '02+ 1-', (((1,), -1), ((0,), 1))],
            [way_of(sort, 0, 1), way_of(sort, 1, 2), way_of(sort, 0, 2), way_of(sort, 1, 1), still(2), turning(1),
             throw_text(sort), read_throw("1- 0+")])

    def test_part_2_sheets(self):
        desk = ("tray", "pile")
        self.told(
            [True, False, (((0, 2), 1), ((1,), -1)), ((1, 2, 4), (3, 0)), (0, 1, 0), None],
            [is_desk(desk), is_sheet(desk, (0, 2)), throw_by(desk, (0, 1, 0)),
             gathered(desk, (0, 1, 0), (1, 0, 2, 1, 0)),
             sheet_for(desk, SORT), sheet_for(desk, (((1,), -1), ((0,), 1)))])

    def test_part_3(self):
        mixed = (("kept", "kept", "turned"), ("kept", "kept", "kept"), ("turned", "kept", "kept"))
        self.told(
            [(('kept', 'ahead', 'kept'), ('behind', 'turned', 'behind'), ('kept', 'ahead', 'kept')),
             ('throw', (((0, 2), 1), ((1,), -1))), True, 'ring', True, True, False],
            [table_of(SORT), judge_table(table_of(SORT)), is_table(mixed), judge_table(mixed)[0],
             is_ring(mixed, (2, 1, 0)),
             is_ring(mixed, (0, 1, 2)), is_ring(mixed, (0, 2, 1))])
        self.told(
            [(0, 1, 2), None, (1, 2, 4, 3, 0), 512, True],
            [order_by_table(mixed, (0, 1, 1)), order_by_table(mixed, (0, 1, 2)),
             order_by_table(table_of(SORT), (1, 0, 2, 1, 0)), tables_number(3),
             table_holds(mixed, ("ring", (2, 1, 0)))])

    def test_part_4_rows(self):
        back = (((1, 2), -1), ((0,), 1))
        self.told(
            [(((1,), 1), ((2,), -1), ((0,), 1)), (((2,), -1), ((0,), 1), ((1,), -1)), (((0, 1), 1),),
             (((0, 2), 1), ((1,), 1)), True, (((0, 1, 2), 1),)],
            [both(SORT, back), row_of(3, (SORT, back, SORT)), row_of(2, ()), power(SORT, 2),
             power(SORT, 10 ** 30 + 1) == SORT, power(SORT, 0)])
        self.told(
            [('undone', (((0, 1), -1),)), True, ('parted', 1, 2), 'set', True],
            [judge_undone((((0, 1), -1),)), undone_holds(SORT, ("lost", 0, 1)), judge_behind(SORT, back),
             judge_ahead(SORT, back)[0], behind_holds(SORT, both(SORT, back), ("throw", back))])

    def test_part_4_outcomes(self):
        self.told(
            [True, False, 3, ((1, 2, 0), (2, 0, 1), (2, 1, 0)), 0],
            [can_come(SORT, (0, 2, 1)), can_come(SORT, (0, 1, 2)), went_in(SORT, (2, 0, 1)), all_in(SORT, (2, 0, 1)),
             went_in(SORT, (0, 1, 2))])

    def test_part_5(self):
        self.told(
            [True, False, 'acb', 'ab', 'abba', 'bab', 'aabb'],
            [is_word("abba"), is_word("f"), last_stands("abcacb"), plain_word("aaab"), plain_word("abba"),
             plain_word("bab"),
             plain_word("abbabb")])
        self.told(
            [('alike',), 'apart', 'apart', True, 21, 439, ('', 'a', 'aa')],
            [judge_words("aaa", "a"), judge_words("ab", "ba")[0], judge_words("abab", "ab")[0],
             are_alike_kept("abab", "ab"), plain_number(2), plain_number(3), all_plain(1)])
        turn, part, stay = (((0, 1), -1),), (((0,), 1), ((1,), 1)), (((0, 1), 1),)
        choice = (turn, part, stay, stay, stay)
        self.told(
            [(((0,), -1), ((1,), -1)), (((1,), -1), ((0,), -1)), True, False],
            [throw_of("ab", choice), throw_of("ba", choice), words_hold("ab", "ba", ("apart", choice, (0, 1))),
             words_hold("aa", "", ("apart", choice, (0, 1)))])

    def test_part_6_folded(self):
        one, piles = ("tray", "pile", "tray"), ("pile", "pile")
        self.told(
            [(1, -1, 1), (1, 1, 1, 1), (-1, 1, -1, -1, 1, -1), 9, (2, 0), (0, 1), 0],
            [folded_word((one,)), folded_word((piles, piles)), folded_word((one, piles)), codes_number((one, one)),
             code_at((one, piles), 0), code_at((one, piles), 5), position_of((piles, piles), (1, 0))])
        self.told(
            [1, True, True, False, False],
            [sign_of((one, piles), (1, 1)), is_ahead((one, piles), (2, 0), (1, 0)),
             is_ahead((one, one), (2, 0), (0, 2)),
             is_code((one,), (3,)), are_desks((one, ()))])

    def test_part_6_plans(self):
        one, piles = ("tray", "pile", "tray"), ("pile", "pile")
        singles, turned = (((0,), 1), ((1,), 1), ((2,), 1)), (((0,), -1), ((1,), -1))
        self.told(
            [3, 2, 2, None, 1, 2],
            [fewest(("tray", "pile"), singles), fewest(piles, singles), fewest(("tray", "tray"), singles),
             fewest(("tray", "tray"), turned), fewest(piles, turned), fewest(("tray", "pile"), turned)])
        self.told(
            [('short', 2), ('short', 0), ('codes', ((0,), (1,), (2,))), True, 3],
            [judge_made((one,), singles), judge_made((piles,), singles),
             judge_made((one,), (((0,), 1), ((1,), -1), ((2,), 1))),
             made_holds((piles, piles), singles, ("codes", ((1, 0), (0, 0), (0, 1)))), sign_rows((one,), 2)])
        self.told(
            [(((1,), 1), ((0,), -1)), ((0, 1, 0, 2),)],
            [throw_of_plan(2, ((("tray", "pile"),) * 2), ((0, 1), (1, 1))),
             plan_for((one,), (((0, 2), 1), ((1,), -1), ((3,), 1)))])

    def test_part_7(self):
        pair, four = ("tray", "pile"), (((0,), 1), ((1,), 1), ((2,), -1), ((3,), 1))
        tree = ((0, ((0, 0), (1, ((1, 1),)))), (1, ((0, 2), (1, 3))))
        self.told(
            [True, 25, (2, 1, 4, 3, 0, 5), False, True],
            [is_tree(pair, four, tree), handlings(pair, four, tree, (5, 1, 2, 4)),
             order_by_tree(pair, four, tree, (3, 1, 0, 2, 1, 3)), is_tree(pair, four, 0),
             is_tree(pair, (((0, 1), 1),), 0)])
        self.told(
            [10, 13, 17, None, ((0, 0), (1, 1))],
            [least_handlings(pair, (((0,), 1), ((1,), -1)), (7, 3)),
             least_handlings(pair, (((0,), 1), ((1,), 1)), (7, 3)),
             least_handlings(pair, (((0,), 1), ((1,), 1)), (3, 7)),
             least_handlings(("tray", "tray"), (((0,), -1), ((1,), 1)), (1, 1)),
             best_tree(pair, (((0,), 1), ((1,), -1)), (7, 3))])

    def test_part_8_facts(self):
        seen = (((0, 1, 0), (1, 0, 2)),)
        parted = (((0, 0), (0, 1)), ((0, 0), (1, 0)))
        self.told(
            [('behind',), ('kept',), ('kept', 'turned'), ('sure',), ('never',), 'open'],
            [ways_left(2, seen, 0, 1), ways_left(2, seen, 0, 0), ways_left(2, seen, 1, 1),
             judge_way(2, seen, 0, 1, 'behind'), judge_way(2, seen, 1, 0, 'behind'),
             judge_way(2, seen, 1, 1, 'kept')[0]])
        self.told(
            [True, ((((1,), -1), ((0,), 1)), (((1,), 1), ((0,), 1))), 'knot', True],
            [fits((((1,), -1), ((0,), 1)), seen), fitting_throws(2, seen, 9), judge_facts(1, parted)[0],
             facts_hold(1, parted, ('knot', (0,), (0, 0, 1), (1, 0, 1)))])

    def test_part_8_probes(self):
        seen = (((0, 1, 0), (1, 0, 2)),)
        self.told(
            [('tells',), 'same', True, (0, 0), (((1, 2, 0), 1), ((2, 1, 0), 1))],
            [judge_test(2, (0, 1, 1, 0)), judge_test(2, (0, 0, 1, 1))[0],
             test_holds(2, (0, 0, 1, 1), ('same', (((0,), 1), ((1,), 1)), (((0, 1), 1),))), least_test(1),
             looks_left(2, seen, (0, 1, 1))])

    def test_part_9(self):
        turn = ((((0, 1), -1),),)
        apart = ((((0,), 1), ((1,), -1)), (((0, 1), -1),))
        self.told(
            [True, False, ((((0, 1), -1),), (((0, 1), 1),)), (((((0, 1), -1),), 1), ((((0, 1), 1),), 0)), ('row', ()),
             'closed'],
            [is_book(turn), is_book(()), all_made(turn), row_lengths(turn), judge_reached(turn, (((0, 1), 1),)),
             judge_reached(turn, (((0,), 1), ((1,), 1)))[0]])
        self.told(
            [(((1,), 1), ((0,), -1)), ('row', (0, 1)), 'closed', True, False, 'first', ('same',)],
            [made_by(apart, (0, 1)), judge_brought(apart, (1, 0)), judge_brought(turn, (0, 1))[0],
             reached_holds(turn, (((0,), 1), ((1,), 1)), ('closed', ((((0, 1), -1),), (((0, 1), 1),)))),
             brought_holds(apart, (0, 1), ('row', (1, 0))), judge_same(apart, turn)[0], judge_same(turn, turn)])

    def test_part_10(self):
        still_two, turned = ('throw', (((0, 1), 1),)), ('throw', (((0, 1), -1),))
        lots = ('throw', (((0,), 1), ((1,), 1)))
        twice = ('often', ('row', (turned, turned)))
        parted = ('parted', (0,), turned, still_two)
        self.told(
            [True, False, 4, ('ahead',), ('ahead', 'behind'), ('behind',)],
            [is_program(2, twice), is_program(2, ('choice', ())), parts_of(2, twice), ends(2, twice, 0, 1),
             ends(2, ('choice', (still_two, turned)), 1, 1), ends(2, lots, 1, 0)])
        self.told(
            [('sure',), 'wrong', False, ('alike',), 'unlike'],
            [judge_sorted(2, ('row', (turned, lots)), (0, 1)), judge_sorted(2, ('row', (lots, turned)), (0, 1))[0],
             sorted_holds(2, still_two, (0, 1), ('wrong', 0, 1)), judge_alike(2, twice, still_two),
             judge_alike(2, still_two, parted)[0]])
        self.told(
            [(1, 2, 0), False, (1, 0), None, ((),)],
            [order_by(2, parted, (0, 1, 0), ((), (), (1, 0, 0))),
             is_run(2, parted, (0, 1, 0), ((), (), (0, 0, 0))),
             order_by(2, ('choice', (still_two, turned)), (0, 1), (1, ())), run_to(2, still_two, 0, 1, 'behind'),
             run_to(2, ('row', (turned,)), 0, 1, 'behind')])

    def test_part_11(self):
        self.told(
            [2, 74, 730, 12, 0, (((0,), -1), ((1,), -1)), (((0,), 1),), 1],
            [throws_number(1), throws_number(3), throws_number(4), throws_with(3, 2, 1), throws_with(2, 3, 0),
             throw_at(2, 0), throw_at(1, 1), number_of((((0,), 1),))])
        self.told(
            [12, 3, 4, 1],
            [decks_number((2, 1, 1)), outcomes_number(SORT, (2, 1, 1)), alike_number(SORT, (2, 1, 1)),
             decks_number((0, 0))])

    def test_part_12(self):
        bench = Bench(3, (1, 0, 2, 1, 0))
        self.told(
            [None, (0, 2, 0, 1, 1), None, None, 3, 'size 3\ndeck 10210\ndone 02+ 1-\npair 1 2\nfirst 1'],
            [bench.thrown((((0, 2), 1), ((1,), -1))), bench.deck(), bench.claim(("pair", 1, 2)),
             bench.claim(("first", 1)), bench.undoable(), bench.text()])
        self.told(('pair', 1, 2), self.raised(Unkept, bench.thrown, (((0, 1, 2), -1),)).claim)
        self.told(
            [None, (((0, 2), 1), ((1,), -1)), (1, 2, 4, 3, 0), None, None, 1],
            [bench.sheeted(("tray", "tray"), (0, 1, 0)), bench.done(), bench.order(), bench.release(("first", 1)),
             bench.undo(), bench.redoable()])
        self.told(('sorted', (0, 1, 2)), self.raised(Unkept, bench.claim, ("sorted", (0, 1, 2))).claim)
        self.told(
            [True, ()],
            [read_bench(bench.text()).is_same(bench), read_bench("size 1\ndeck -\ndone 0+").claims()])
        self.refused_text(3, read_bench, "size 2\ndeck 01")


if __name__ == "__main__":
    unittest.main()

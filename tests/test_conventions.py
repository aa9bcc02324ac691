import unittest
from itertools import permutations

from lotthrows import (
    benches, books, decks, facts, folded, numbers, outcomes, plans, probes, programs, rows, runs, sheets, tables,
    throws, trees, words,
)
from lotthrows.errors import (
    BadBook, BadChoice, BadCode, BadCounts, BadDeck, BadDesk, BadDesks, BadEnd, BadFacts, BadKind, BadNumber, BadOrder,
    BadPlan, BadProgram, BadRun, BadSheet, BadSize, BadTable, BadThrow, BadThrows, BadTree, BadWay, BadWord,
)
from helpers import SORT, Case
from test_form import INTERFACE

BACK = (((1, 2), -1), ((0,), 1))
DECK = (1, 0, 2, 1, 0)
DESK = ("tray", "pile")
DESKS = (("tray", "pile", "tray"), ("pile", "pile"))
CHOICE = ((((0, 1), -1),), (((0,), 1), ((1,), 1)), (((0, 1), 1),), (((0, 1), 1),), (((0, 1), 1),))
TABLE = (("kept", "ahead", "kept"), ("behind", "turned", "behind"), ("kept", "ahead", "kept"))
SEEN = (((0, 1, 0), (1, 0, 2)),)
BOOK = ((((0,), 1), ((1,), -1)), (((0, 1), -1),))
TWO = (((0, 1), 1),)
PROGRAM = ("parted", (0,), ("throw", (((0, 1), -1),)), ("choice", (("throw", TWO), ("row", ()))))
RUN = ((), (1, ()), (1, 0, 0))


def standing_of_text(text):
    """The standing of the bench that read_bench returns, which cannot be told by its repr."""
    return benches.read_bench(text).standing()


# The function, its arguments in the order of its parameters, and its result.
CALLS = (
    (decks.is_deck, {"size": 3, "thing": DECK}, True),
    (decks.is_deck, {"size": 3, "thing": [0, {}, None]}, False),
    (decks.is_order, {"n": 2, "thing": (1, 0)}, True),
    (decks.is_order, {"n": 2, "thing": [1, [0]]}, False),
    (decks.laid, {"deck": DECK, "order": (1, 2, 4, 3, 0)}, (0, 2, 0, 1, 1)),
    (decks.together, {"one": (1, 2, 0), "other": (2, 1, 0)}, (0, 2, 1)),
    (decks.undone_order, {"order": (1, 2, 0)}, (2, 0, 1)),
    (decks.opposite, {"order": (1, 2, 0)}, (0, 2, 1)),
    (decks.counts_of, {"size": 3, "deck": DECK}, (2, 2, 1)),
    (decks.deck_text, {"deck": DECK}, "10210"),
    (decks.read_deck, {"text": "10210"}, DECK),
    (throws.is_throw, {"thing": SORT}, True),
    (throws.is_throw, {"thing": [list(SORT), {0: SORT}]}, False),
    (throws.size_of, {"throw": SORT}, 3),
    (throws.still, {"size": 2}, (((0, 1), 1),)),
    (throws.turning, {"size": 2}, (((0, 1), -1),)),
    (throws.lot_of, {"throw": SORT, "kind": 1}, 1),
    (throws.way_of, {"throw": SORT, "a": 0, "b": 1}, "ahead"),
    (throws.order_after, {"throw": SORT, "deck": DECK}, (1, 2, 4, 3, 0)),
    (throws.deck_after, {"throw": SORT, "deck": DECK}, (0, 2, 0, 1, 1)),
    (throws.throw_text, {"throw": SORT}, "02+ 1-"),
    (throws.read_throw, {"text": "02+ 1-"}, SORT),
    (sheets.is_desk, {"thing": DESK}, True),
    (sheets.is_desk, {"thing": [list(DESK), {0: DESK}]}, False),
    (sheets.is_sheet, {"desk": DESK, "thing": (0, 1, 0)}, True),
    (sheets.is_sheet, {"desk": DESK, "thing": [0, {}, None]}, False),
    (sheets.throw_by, {"desk": DESK, "sheet": (0, 1, 0)}, SORT),
    (sheets.gathered, {"desk": DESK, "sheet": (0, 1, 0), "deck": DECK}, ((1, 2, 4), (3, 0))),
    (sheets.sheet_for, {"desk": DESK, "throw": SORT}, (0, 1, 0)),
    (tables.is_table, {"thing": TABLE}, True),
    (tables.is_table, {"thing": [list(TABLE), {0: TABLE}]}, False),
    (tables.table_of, {"throw": SORT}, TABLE),
    (tables.judge_table, {"table": TABLE}, ("throw", SORT)),
    (tables.table_holds, {"table": TABLE, "thing": ("throw", SORT)}, True),
    (tables.table_holds, {"table": TABLE, "thing": ["throw", [SORT]]}, False),
    (tables.is_ring, {"table": (("kept", "kept"), ("kept", "turned")), "thing": (1, 0, 1)}, True),
    (tables.is_ring, {"table": TABLE, "thing": [[0, 1, 2]]}, False),
    (tables.order_by_table, {"table": TABLE, "deck": DECK}, (1, 2, 4, 3, 0)),
    (tables.tables_number, {"size": 3}, 512),
    (rows.both, {"one": SORT, "other": BACK}, (((1,), 1), ((2,), -1), ((0,), 1))),
    (rows.row_of, {"size": 3, "throws": (SORT, BACK)}, (((1,), 1), ((2,), -1), ((0,), 1))),
    (rows.power, {"throw": SORT, "n": 3}, SORT),
    (rows.judge_undone, {"throw": SORT}, ("lost", 0, 1)),
    (rows.undone_holds, {"throw": SORT, "thing": ("lost", 1, 2)}, True),
    (rows.undone_holds, {"throw": SORT, "thing": ["lost", [1], 2]}, False),
    (rows.judge_behind, {"first": SORT, "whole": BACK}, ("parted", 1, 2)),
    (rows.judge_ahead, {"last": BACK, "whole": SORT}, ("set", 1, 0)),
    (rows.behind_holds, {"first": SORT, "whole": BACK, "thing": ("parted", 1, 2)}, True),
    (rows.behind_holds, {"first": SORT, "whole": BACK, "thing": ["parted", [1], 2]}, False),
    (rows.ahead_holds, {"last": BACK, "whole": SORT, "thing": ("set", 1, 0)}, True),
    (rows.ahead_holds, {"last": BACK, "whole": SORT, "thing": ["set", [1], 0]}, False),
    (outcomes.can_come, {"throw": SORT, "deck": (0, 2, 1)}, True),
    (outcomes.went_in, {"throw": SORT, "deck": (0, 2, 1)}, 3),
    (outcomes.all_in, {"throw": SORT, "deck": (2, 0, 1), "most": 3}, ((1, 2, 0), (2, 0, 1), (2, 1, 0))),
    (words.is_word, {"thing": "abba"}, True),
    (words.is_word, {"thing": [{0: "a"}]}, False),
    (words.is_choice, {"thing": CHOICE}, True),
    (words.is_choice, {"thing": [list(CHOICE), {0: CHOICE}]}, False),
    (words.throw_of, {"word": "ab", "choice": CHOICE}, (((0,), -1), ((1,), -1))),
    (words.last_stands, {"word": "abcacb"}, "acb"),
    (words.judge_words, {"one": "aaa", "other": "a"}, ("alike",)),
    (words.words_hold, {"one": "ab", "other": "ba", "thing": ("apart", CHOICE, (0, 1))}, True),
    (words.words_hold, {"one": "ab", "other": "ba", "thing": ["apart", [CHOICE], [0, 1]]}, False),
    (words.are_alike_kept, {"one": "abab", "other": "ab"}, True),
    (words.plain_word, {"word": "abbabb"}, "aabb"),
    (words.plain_number, {"n": 3}, 439),
    (words.all_plain, {"n": 1}, ("", "a", "aa")),
    (folded.are_desks, {"thing": DESKS}, True),
    (folded.are_desks, {"thing": [list(DESKS), {0: DESKS}]}, False),
    (folded.is_code, {"desks": DESKS, "thing": (2, 0)}, True),
    (folded.is_code, {"desks": DESKS, "thing": [2, {0: 0}]}, False),
    (folded.sign_of, {"desks": DESKS, "code": (1, 1)}, 1),
    (folded.is_ahead, {"desks": DESKS, "one": (2, 0), "other": (1, 0)}, True),
    (folded.codes_number, {"desks": DESKS}, 6),
    (folded.code_at, {"desks": DESKS, "n": 5}, (0, 1)),
    (folded.position_of, {"desks": DESKS, "code": (0, 1)}, 5),
    (folded.folded_word, {"desks": DESKS}, (-1, 1, -1, -1, 1, -1)),
    (plans.is_plan, {"desks": DESKS, "thing": ((0, 1, 2), (1, 1, 0))}, True),
    (plans.is_plan, {"desks": DESKS, "thing": [[0, 1, 2], {0: 1}]}, False),
    (plans.throw_of_plan, {"size": 3, "desks": DESKS, "plan": ((0, 2, 0), (0, 1, 0))}, (((0, 2), -1), ((1,), -1))),
    (plans.judge_made, {"desks": DESKS, "throw": SORT}, ("codes", ((1, 0), (0, 0)))),
    (plans.made_holds, {"desks": DESKS, "throw": SORT, "thing": ("codes", ((1, 0), (0, 1)))}, True),
    (plans.made_holds, {"desks": DESKS, "throw": SORT, "thing": ["short", [1]]}, False),
    (plans.plan_for, {"desks": DESKS, "throw": SORT}, ((1, 0, 1), (0, 0, 0))),
    (plans.fewest, {"desk": DESK, "throw": SORT}, 1),
    (plans.sign_rows, {"desks": DESKS, "m": 2}, 4),
    (trees.is_tree, {"desk": DESK, "throw": SORT, "thing": ((0, 0), (1, 1))}, True),
    (trees.is_tree, {"desk": DESK, "throw": SORT, "thing": [[0, 0], (1, 1)]}, False),
    (trees.handlings, {"desk": DESK, "throw": SORT, "tree": ((0, 0), (1, 1)), "counts": (3, 2)}, 5),
    (trees.order_by_tree, {"desk": DESK, "throw": SORT, "tree": ((0, 0), (1, 1)), "deck": DECK}, (1, 2, 4, 3, 0)),
    (trees.best_tree, {"desk": DESK, "throw": SORT, "counts": (3, 2)}, ((0, 0), (1, 1))),
    (trees.least_handlings, {"desk": DESK, "throw": SORT, "counts": (3, 2)}, 5),
    (facts.fits, {"throw": TWO, "facts": SEEN}, False),
    (facts.fits, {"throw": (((1,), 1), ((0,), 1)), "facts": SEEN}, True),
    (facts.judge_facts, {"size": 2, "facts": SEEN}, ("throw", (((1,), 1), ((0,), 1)))),
    (facts.facts_hold, {"size": 2, "facts": SEEN, "thing": ("throw", (((1,), -1), ((0,), 1)))}, True),
    (facts.facts_hold, {"size": 2, "facts": SEEN, "thing": ["knot", [0], {0: 1}, ()]}, False),
    (facts.ways_left, {"size": 2, "facts": SEEN, "a": 0, "b": 1}, ("behind",)),
    (facts.judge_way, {"size": 2, "facts": SEEN, "a": 0, "b": 1, "way": "kept"}, ("never",)),
    (facts.way_holds, {"size": 2, "facts": SEEN, "a": 0, "b": 1, "way": "kept", "thing": ("never",)}, True),
    (facts.way_holds, {"size": 2, "facts": SEEN, "a": 0, "b": 1, "way": "kept", "thing": ["never"]}, False),
    (facts.fitting_throws, {"size": 2, "facts": SEEN, "most": 2},
     ((((1,), -1), ((0,), 1)), (((1,), 1), ((0,), 1)))),
    (probes.judge_test, {"size": 2, "deck": (0, 1, 1, 0)}, ("tells",)),
    (probes.test_holds, {"size": 2, "deck": (0, 1, 1, 0), "thing": ("tells",)}, True),
    (probes.test_holds, {"size": 2, "deck": (0, 1, 1, 0), "thing": ["same", [TWO], {0: TWO}]}, False),
    (probes.least_test, {"size": 1}, (0, 0)),
    (probes.looks_left, {"size": 2, "facts": SEEN, "deck": (0, 1)}, (((1, 0), 2),)),
    (books.is_book, {"thing": BOOK}, True),
    (books.is_book, {"thing": [list(BOOK), {0: BOOK}]}, False),
    (books.made_by, {"book": BOOK, "numbers": (0, 1)}, (((1,), 1), ((0,), -1))),
    (books.all_made, {"book": BOOK[1:]}, ((((0, 1), -1),), TWO)),
    (books.row_lengths, {"book": BOOK[1:]}, (((((0, 1), -1),), 1), (TWO, 0))),
    (books.judge_reached, {"book": BOOK, "throw": (((1,), 1), ((0,), -1))}, ("row", (0, 1))),
    (books.reached_holds, {"book": BOOK, "throw": (((1,), 1), ((0,), -1)), "thing": ("row", (0, 1))}, True),
    (books.reached_holds, {"book": BOOK, "throw": TWO, "thing": ["closed", [TWO]]}, False),
    (books.judge_brought, {"book": BOOK, "kinds": (1, 0)}, ("row", (0, 1))),
    (books.brought_holds, {"book": BOOK, "kinds": (1, 0), "thing": ("row", (0, 1))}, True),
    (books.brought_holds, {"book": BOOK, "kinds": (1, 0), "thing": ["row", [0, {}]]}, False),
    (books.judge_same, {"one": BOOK, "other": BOOK[::-1]}, ("same",)),
    (books.same_holds, {"one": BOOK, "other": BOOK[1:], "thing": ("first", BOOK[0])}, True),
    (books.same_holds, {"one": BOOK, "other": BOOK[1:], "thing": ["first", [BOOK[0]]]}, False),
    (programs.is_program, {"size": 2, "thing": PROGRAM}, True),
    (programs.is_program, {"size": 2, "thing": ["row", [list(PROGRAM), {0: ()}]]}, False),
    (programs.parts_of, {"size": 2, "program": PROGRAM}, 5),
    (programs.ends, {"size": 2, "program": PROGRAM, "a": 0, "b": 1}, ("ahead", "behind")),
    (programs.judge_sorted, {"size": 2, "program": ("throw", BOOK[0]), "kinds": (0, 1)}, ("sure",)),
    (programs.sorted_holds, {"size": 2, "program": PROGRAM, "kinds": (0, 1), "thing": ("wrong", 1, 0)}, True),
    (programs.sorted_holds, {"size": 2, "program": PROGRAM, "kinds": (0, 1), "thing": ["wrong", [1], {0: 0}]}, False),
    (programs.judge_alike, {"size": 2, "one": ("throw", TWO), "other": ("row", ())}, ("alike",)),
    (programs.alike_holds, {"size": 2, "one": PROGRAM, "other": ("row", ()), "thing": ("unlike", 0, 1)}, True),
    (programs.alike_holds, {"size": 2, "one": PROGRAM, "other": ("row", ()), "thing": ["alike"]}, False),
    (runs.is_run, {"size": 2, "program": PROGRAM, "deck": (0, 1, 0), "thing": RUN}, True),
    (runs.is_run, {"size": 2, "program": PROGRAM, "deck": (0, 1, 0), "thing": [[], [1, ()], [1, 0, 0]]}, False),
    (runs.order_by, {"size": 2, "program": PROGRAM, "deck": (0, 1, 0), "run": RUN}, (1, 2, 0)),
    (runs.run_to, {"size": 2, "program": ("row", (("throw", TWO),)), "a": 0, "b": 1, "end": "ahead"}, ((),)),
    (numbers.throws_number, {"size": 3}, 74),
    (numbers.throws_with, {"size": 3, "lots": 2, "turned": 1}, 12),
    (numbers.throw_at, {"size": 1, "n": 1}, (((0,), 1),)),
    (numbers.number_of, {"throw": (((0,), 1),)}, 1),
    (numbers.decks_number, {"counts": (2, 1, 1)}, 12),
    (numbers.outcomes_number, {"throw": SORT, "counts": (2, 1, 1)}, 3),
    (numbers.alike_number, {"throw": SORT, "counts": (2, 1, 1)}, 4),
    (standing_of_text, {"text": "size 2\ndeck 01\ndone 01+\nfirst 0"}, (2, (0, 1), TWO, (("first", 0),))),
)
# The parameters that are passed by name alone.
NAMED = ("most",)

# The function, and its parameters in order with a value that is none, and the error of each.
REFUSALS = (
    (decks.is_deck, (("size", [], BadSize), ("thing", [], None))),
    (decks.is_order, (("n", [], BadNumber), ("thing", [], None))),
    (decks.laid, (("deck", [], BadDeck), ("order", [[]], BadOrder))),
    (decks.together, (("one", [], BadOrder), ("other", [[]], BadOrder))),
    (decks.undone_order, (("order", [], BadOrder),)),
    (decks.opposite, (("order", [], BadOrder),)),
    (decks.counts_of, (("size", [], BadSize), ("deck", [[]], BadDeck))),
    (decks.deck_text, (("deck", [], BadDeck),)),
    (throws.size_of, (("throw", [], BadThrow),)),
    (throws.still, (("size", [], BadSize),)),
    (throws.turning, (("size", [], BadSize),)),
    (throws.lot_of, (("throw", [], BadThrow), ("kind", [[]], BadKind))),
    (throws.way_of, (("throw", [], BadThrow), ("a", [[]], BadKind), ("b", {0: []}, BadKind))),
    (throws.order_after, (("throw", [], BadThrow), ("deck", [[]], BadDeck))),
    (throws.deck_after, (("throw", [], BadThrow), ("deck", [[]], BadDeck))),
    (throws.throw_text, (("throw", [], BadThrow),)),
    (sheets.is_sheet, (("desk", [], BadDesk), ("thing", [], None))),
    (sheets.throw_by, (("desk", [], BadDesk), ("sheet", [[]], BadSheet))),
    (sheets.gathered, (("desk", [], BadDesk), ("sheet", [[]], BadSheet), ("deck", {0: []}, BadDeck))),
    (sheets.sheet_for, (("desk", [], BadDesk), ("throw", [[]], BadThrow))),
    (tables.table_of, (("throw", [], BadThrow),)),
    (tables.judge_table, (("table", [], BadTable),)),
    (tables.table_holds, (("table", [], BadTable), ("thing", [[]], None))),
    (tables.is_ring, (("table", [], BadTable), ("thing", [[]], None))),
    (tables.order_by_table, (("table", [], BadTable), ("deck", [[]], BadDeck))),
    (tables.tables_number, (("size", [], BadSize),)),
    (rows.both, (("one", [], BadThrow), ("other", [[]], BadThrow))),
    (rows.row_of, (("size", [], BadSize), ("throws", [[]], BadThrows))),
    (rows.power, (("throw", [], BadThrow), ("n", [[]], BadNumber))),
    (rows.judge_undone, (("throw", [], BadThrow),)),
    (rows.undone_holds, (("throw", [], BadThrow), ("thing", [[]], None))),
    (rows.judge_behind, (("first", [], BadThrow), ("whole", [[]], BadThrow))),
    (rows.judge_ahead, (("last", [], BadThrow), ("whole", [[]], BadThrow))),
    (rows.behind_holds, (("first", [], BadThrow), ("whole", [[]], BadThrow), ("thing", {0: []}, None))),
    (rows.ahead_holds, (("last", [], BadThrow), ("whole", [[]], BadThrow), ("thing", {0: []}, None))),
    (outcomes.can_come, (("throw", [], BadThrow), ("deck", [[]], BadDeck))),
    (outcomes.went_in, (("throw", [], BadThrow), ("deck", [[]], BadDeck))),
    (outcomes.all_in, (("throw", [], BadThrow), ("deck", [[]], BadDeck), ("most", {0: []}, BadNumber))),
    (words.throw_of, (("word", [], BadWord), ("choice", [[]], BadChoice))),
    (words.last_stands, (("word", [], BadWord),)),
    (words.judge_words, (("one", [], BadWord), ("other", [[]], BadWord))),
    (words.words_hold, (("one", [], BadWord), ("other", [[]], BadWord), ("thing", {0: []}, None))),
    (words.are_alike_kept, (("one", [], BadWord), ("other", [[]], BadWord))),
    (words.plain_word, (("word", [], BadWord),)),
    (words.plain_number, (("n", [], BadNumber),)),
    (words.all_plain, (("n", [], BadNumber),)),
    (folded.is_code, (("desks", [], BadDesks), ("thing", [[]], None))),
    (folded.sign_of, (("desks", [], BadDesks), ("code", [[]], BadCode))),
    (folded.is_ahead, (("desks", [], BadDesks), ("one", [[]], BadCode), ("other", {0: []}, BadCode))),
    (folded.codes_number, (("desks", [], BadDesks),)),
    (folded.code_at, (("desks", [], BadDesks), ("n", [[]], BadNumber))),
    (folded.position_of, (("desks", [], BadDesks), ("code", [[]], BadCode))),
    (folded.folded_word, (("desks", [], BadDesks),)),
    (plans.is_plan, (("desks", [], BadDesks), ("thing", [[]], None))),
    (plans.throw_of_plan, (("size", [], BadSize), ("desks", [[]], BadDesks), ("plan", {0: []}, BadPlan))),
    (plans.judge_made, (("desks", [], BadDesks), ("throw", [[]], BadThrow))),
    (plans.made_holds, (("desks", [], BadDesks), ("throw", [[]], BadThrow), ("thing", {0: []}, None))),
    (plans.plan_for, (("desks", [], BadDesks), ("throw", [[]], BadThrow))),
    (plans.fewest, (("desk", [], BadDesk), ("throw", [[]], BadThrow))),
    (plans.sign_rows, (("desks", [], BadDesks), ("m", [[]], BadNumber))),
    (trees.is_tree, (("desk", [], BadDesk), ("throw", [[]], BadThrow), ("thing", {0: []}, None))),
    (trees.handlings, (("desk", [], BadDesk), ("throw", [[]], BadThrow), ("tree", {0: []}, BadTree),
                       ("counts", {1: []}, BadCounts))),
    (trees.order_by_tree, (("desk", [], BadDesk), ("throw", [[]], BadThrow), ("tree", {0: []}, BadTree),
                           ("deck", {1: []}, BadDeck))),
    (trees.best_tree, (("desk", [], BadDesk), ("throw", [[]], BadThrow), ("counts", {0: []}, BadCounts))),
    (trees.least_handlings, (("desk", [], BadDesk), ("throw", [[]], BadThrow), ("counts", {0: []}, BadCounts))),
    (facts.fits, (("throw", [], BadThrow), ("facts", [[]], BadFacts))),
    (facts.judge_facts, (("size", [], BadSize), ("facts", [[]], BadFacts))),
    (facts.facts_hold, (("size", [], BadSize), ("facts", [[]], BadFacts), ("thing", {0: []}, None))),
    (facts.ways_left, (("size", [], BadSize), ("facts", [[]], BadFacts), ("a", {0: []}, BadKind),
                       ("b", {1: []}, BadKind))),
    (facts.judge_way, (("size", [], BadSize), ("facts", [[]], BadFacts), ("a", {0: []}, BadKind),
                       ("b", {1: []}, BadKind), ("way", {2: []}, BadWay))),
    (facts.way_holds, (("size", [], BadSize), ("facts", [[]], BadFacts), ("a", {0: []}, BadKind),
                       ("b", {1: []}, BadKind), ("way", {2: []}, BadWay), ("thing", {3: []}, None))),
    (facts.fitting_throws, (("size", [], BadSize), ("facts", [[]], BadFacts), ("most", {0: []}, BadNumber))),
    (probes.judge_test, (("size", [], BadSize), ("deck", [[]], BadDeck))),
    (probes.test_holds, (("size", [], BadSize), ("deck", [[]], BadDeck), ("thing", {0: []}, None))),
    (probes.least_test, (("size", [], BadSize),)),
    (probes.looks_left, (("size", [], BadSize), ("facts", [[]], BadFacts), ("deck", {0: []}, BadDeck))),
    (books.made_by, (("book", [], BadBook), ("numbers", [[]], BadNumber))),
    (books.all_made, (("book", [], BadBook),)),
    (books.row_lengths, (("book", [], BadBook),)),
    (books.judge_reached, (("book", [], BadBook), ("throw", [[]], BadThrow))),
    (books.reached_holds, (("book", [], BadBook), ("throw", [[]], BadThrow), ("thing", {0: []}, None))),
    (books.judge_brought, (("book", [], BadBook), ("kinds", [[]], BadOrder))),
    (books.brought_holds, (("book", [], BadBook), ("kinds", [[]], BadOrder), ("thing", {0: []}, None))),
    (books.judge_same, (("one", [], BadBook), ("other", [[]], BadBook))),
    (books.same_holds, (("one", [], BadBook), ("other", [[]], BadBook), ("thing", {0: []}, None))),
    (programs.is_program, (("size", [], BadSize), ("thing", [[]], None))),
    (programs.parts_of, (("size", [], BadSize), ("program", [[]], BadProgram))),
    (programs.ends, (("size", [], BadSize), ("program", [[]], BadProgram), ("a", {0: []}, BadKind),
                     ("b", {1: []}, BadKind))),
    (programs.judge_sorted, (("size", [], BadSize), ("program", [[]], BadProgram), ("kinds", {0: []}, BadOrder))),
    (programs.sorted_holds, (("size", [], BadSize), ("program", [[]], BadProgram), ("kinds", {0: []}, BadOrder),
                             ("thing", {1: []}, None))),
    (programs.judge_alike, (("size", [], BadSize), ("one", [[]], BadProgram), ("other", {0: []}, BadProgram))),
    (programs.alike_holds, (("size", [], BadSize), ("one", [[]], BadProgram), ("other", {0: []}, BadProgram),
                            ("thing", {1: []}, None))),
    (runs.is_run, (("size", [], BadSize), ("program", [[]], BadProgram), ("deck", {0: []}, BadDeck),
                   ("thing", {1: []}, None))),
    (runs.order_by, (("size", [], BadSize), ("program", [[]], BadProgram), ("deck", {0: []}, BadDeck),
                     ("run", {1: []}, BadRun))),
    (runs.run_to, (("size", [], BadSize), ("program", [[]], BadProgram), ("a", {0: []}, BadKind),
                   ("b", {1: []}, BadKind), ("end", {2: []}, BadEnd))),
    (numbers.throws_number, (("size", [], BadSize),)),
    (numbers.throws_with, (("size", [], BadSize), ("lots", [[]], BadNumber), ("turned", {0: []}, BadNumber))),
    (numbers.throw_at, (("size", [], BadSize), ("n", [[]], BadNumber))),
    (numbers.number_of, (("throw", [], BadThrow),)),
    (numbers.decks_number, (("counts", [], BadCounts),)),
    (numbers.outcomes_number, (("throw", [], BadThrow), ("counts", [[]], BadCounts))),
    (numbers.alike_number, (("throw", [], BadThrow), ("counts", [[]], BadCounts))),
)


def by_position(arguments):
    """The arguments as they are passed by position, as far as they can be."""
    placed = [value for name, value in arguments.items() if name not in NAMED]
    return placed, {name: value for name, value in arguments.items() if name in NAMED}


class ConventionsTest(Case):
    def test_each_function_of_the_interface_is_called(self):
        called = {(function.__module__, function.__name__) for function, _, _ in CALLS}
        called.add(("lotthrows.benches", "read_bench"))
        for name, functions in INTERFACE.items():
            for function in functions:
                self.assertIn(("lotthrows." + name, function), called)

    def test_by_position_and_by_name(self):
        for function, arguments, result in CALLS:
            placed, named = by_position(arguments)
            self.told(result, function(*placed, **named))
            for names in permutations(arguments):
                self.told(result, function(**{name: arguments[name] for name in names}))

    def test_the_same_call_returns_an_equal_result_and_changes_no_argument(self):
        for function, arguments, result in CALLS:
            before = repr(arguments)
            for _ in range(3):
                self.told(result, function(**arguments))
                self.assertEqual(repr(arguments), before)

    def test_a_wrong_argument_beside_right_ones(self):
        right = {function: arguments for function, arguments, _ in CALLS if function(**arguments) is not False}
        for function, parameters in REFUSALS:
            for name, wrong, error in parameters:
                if error is not None:
                    self.refused(error, wrong, function, **{**right[function], name: wrong})

    def test_of_several_wrong_arguments_the_first_one_is_told(self):
        for function, parameters in REFUSALS:
            for first in range(len(parameters)):
                right = [arguments for called, arguments, _ in CALLS if called is function][0]
                wrongs = {name: wrong for name, wrong, _ in parameters[first:]}
                error = parameters[first][2]
                if error is not None:
                    self.refused(error, parameters[first][1], function, **{**right, **wrongs})

    def test_refusals_are_equal_whenever_they_come(self):
        for function, parameters in REFUSALS:
            placed, named = by_position({name: wrong for name, wrong, _ in parameters})
            for _ in range(3):
                self.refused(parameters[0][2], placed[0], function, *placed, **named)

    def test_functions_can_take_what_functions_return(self):
        throw = throws.read_throw(throws.throw_text(throws.still(3)))
        order = throws.order_after(throw, decks.read_deck("-"))
        self.told(((), (0, 0, 0)),
                  (decks.laid((), decks.opposite(decks.undone_order(order))), decks.counts_of(3, order)))


if __name__ == "__main__":
    unittest.main()

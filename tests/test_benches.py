import re
import unittest
from functools import lru_cache
from itertools import permutations, product
from random import Random

from lotthrows.benches import Bench, read_bench
from lotthrows.decks import deck_text, is_order
from lotthrows.errors import (
    BadClaim, BadDeck, BadDesk, BadSheet, BadSize, BadText, BadThrow, NoClaim, NothingToRedo, NothingToUndo, OtherSize,
    ThrowError, Unkept,
)
from lotthrows.rows import both
from lotthrows.sheets import throw_by
from lotthrows.throws import is_throw, order_after, read_throw, size_of, still, throw_text, turning
from helpers import (
    INTEGERS, NO_DECKS, NO_SIZES, NO_THROWS, NOTHING_VALID, SINGLES, SORT, STRINGS, THROWS, Case, drawn_throw, near,
)
from test_sheets import DESKS, NO_DESKS, NO_SHEETS, SIX

DECK = (1, 0, 2, 1, 0)
TEXT = "size 3\ndeck 10210\ndone 02+ 1-\npair 1 2\nfirst 1"
# Values that are no claims about five cards of three kinds.
NO_CLAIMS = NOTHING_VALID + STRINGS + INTEGERS + (
    (), ("sorted",), ("sorted", ()), ("sorted", (0, 1)), ("sorted", (0, 1, 1)), ("sorted", (0, 1, 3)),
    ("sorted", (0, 1, 2, 3)),
    ("sorted", [0, 1, 2]), ("sorted", (0, True, 2)), ("sorted", (False, 1, 2)), ("sorted", "012"), ("sorted", 0, 1, 2),
    ("sorted", (0, 1, 2), ()), ("sorted", None), ("sorted", (0, 1, "2")), ["sorted", (0, 1, 2)], "sorted 012",
    ("Sorted", (0, 1, 2)), ("sorted ", (0, 1, 2)), ("sorted", ((0, 1, 2),)), {"sorted": (0, 1, 2)}, ("sort", (0, 1, 2)),
    ("pair",), ("pair", 1), ("pair", 1, 1), ("pair", 0, 0), ("pair", 1, 5), ("pair", 5, 1), ("pair", -1, 1),
    ("pair", 1, -1),
    ("pair", True, 2), ("pair", 1, False), ("pair", 1, None), ("pair", 1, "2"), ("pair", (1, 2)), ("pair", 1, 2, 3),
    ["pair", 1, 2], ("pair", [1], 2), ("pairs", 1, 2), ("pair", 10 ** 99, 1), "pair 1 2", ("pair", 1, (2,)), (1, 2),
    ("pair", "1", "2"),
    ("first",), ("first", 5), ("first", -1), ("first", True), ("first", False), ("first", None), ("first", (1,)),
    ("first", [1]),
    ("first", "1"), ("first", 1, 2), ["first", 1], ("First", 1), ("last", 1), ("first", 10 ** 99), "first 1",
    ("first", {}),
)


def all_claims(size, cards):
    """All claims about so many cards."""
    found = [("sorted", kinds) for kinds in permutations(range(size))]
    found += [("pair", i, j) for i in range(cards) for j in range(cards) if i != j]
    return found + [("first", i) for i in range(cards)]


def holds(claim, deck, order):
    """Whether a claim holds, told card by card."""
    if claim[0] == "first":
        return not order[:order.index(claim[1])]
    if claim[0] == "pair":
        return claim[2] in order[order.index(claim[1]):]
    return not any(claim[1].index(deck[x]) > claim[1].index(deck[y]) for at,
                   x in enumerate(order) for y in order[at + 1:])


def claim_line(claim):
    if claim[0] == "sorted":
        return "sorted " + "".join(map(str, claim[1]))
    return " ".join(map(str, claim))


@lru_cache(maxsize=None)
def claims_by_line(size, cards):
    return {claim_line(claim): claim for claim in all_claims(size, cards)}


def text_of(size, deck, done, claims):
    lines = [f"size {size}", "deck " + ("".join(map(str, deck)) or "-")]
    lines.append("done " + " ".join("".join(map(str, lot)) + "-+"[sign > 0] for lot, sign in done))
    return "\n".join(lines + [claim_line(claim) for claim in claims])


def standing_of_text(text):
    """The standing of a text, or the number of its first wrong line, told by patterns."""
    lines = text.split("\n")
    if not re.fullmatch("size [1-8]", lines[0]):
        return 1
    size = int(lines[0][5:])
    kind = f"[0-{size - 1}]"
    if len(lines) < 2 or not re.fullmatch(f"deck (-|{kind}{{1,60}})", lines[1]):
        return 2
    deck = tuple(int(digit) for digit in lines[1][5:] if digit != "-")
    if len(lines) < 3 or not re.fullmatch(rf"done {kind}+[+-]( {kind}+[+-])*", lines[2]):
        return 3
    done = tuple((tuple(map(int, word[:-1])), int(word[-1] + "1")) for word in lines[2][5:].split(" "))
    kinds = [kind for lot, _ in done for kind in lot]
    if sorted(kinds) != list(range(size)) or any(list(lot) != sorted(lot) for lot, _ in done):
        return 3
    order = order_after(done, deck)
    claims = []
    for at, line in enumerate(lines[3:], 4):
        claim = claims_by_line(size, len(deck)).get(line)
        if claim is None or claim in claims or not holds(claim, deck, order):
            return at
        claims.append(claim)
    return (size, deck, done, tuple(claims))


class Model:
    """What a bench is, as a plain list of standings and the position of the one that counts."""

    def __init__(self, bench):
        self.bench, self.standings, self.at = bench, [bench.standing()], 0

    def came(self, standing):
        self.standings[self.at + 1:] = [standing]
        self.at += 1

    def now(self):
        return self.standings[self.at]


class BenchCase(Case):
    def looks(self, bench, standing, undoable, redoable):
        """The bench has this standing, and all that it tells goes with it."""
        size, deck, done, claims = standing
        order = order_after(done, deck)
        self.told(standing, bench.standing())
        self.told([tuple(deck[card] for card in order), order, done, claims, undoable, redoable],
                  [bench.deck(), bench.order(), bench.done(), bench.claims(), bench.undoable(), bench.redoable()])
        self.told(text_of(*standing), bench.text())
        for claim in claims:
            self.assertTrue(holds(claim, deck, order), claim)

    def unchanged(self, bench, error, method, *args):
        """The call raises an error and leaves the bench as it was."""
        before = (bench.standing(), bench.undoable(), bench.redoable())
        caught = self.raised(error, method, *args)
        self.looks(bench, *before)
        return caught

    def refuses(self, bench, error, value, method, *args):
        self.assertIs(self.unchanged(bench, error, method, *args).thing, value)


class StandingTest(BenchCase):
    def test_the_examples(self):
        bench = Bench(3, DECK)
        self.told([None, (0, 2, 0, 1, 1), None, None, 3, TEXT],
                  [bench.thrown((((0, 2), 1), ((1,), -1))), bench.deck(), bench.claim(("pair", 1, 2)),
                   bench.claim(("first", 1)), bench.undoable(), bench.text()])
        caught = self.unchanged(bench, Unkept, bench.thrown, (((0, 1, 2), -1),))
        self.told(("pair", 1, 2), caught.claim)
        self.told([None, (((0, 2), 1), ((1,), -1)), (1, 2, 4, 3, 0), None, None, 1],
                  [bench.sheeted(("tray", "tray"), (0, 1, 0)), bench.done(), bench.order(), bench.release(("first", 1)),
                   bench.undo(), bench.redoable()])
        self.told(("sorted", (0, 1, 2)), self.unchanged(bench, Unkept, bench.claim, ("sorted", (0, 1, 2))).claim)
        self.told([True, ()], [read_bench(bench.text()).is_same(bench), read_bench("size 1\ndeck -\ndone 0+").claims()])
        self.refused_text(3, read_bench, "size 2\ndeck 01")

    def test_a_new_bench(self):
        draw = Random(121)
        for size in range(1, 9):
            for cards in (0, 1, 5, 60):
                deck = tuple(draw.choices(range(size), k=cards))
                bench = Bench(size, deck)
                self.looks(bench, (size, deck, still(size), ()), 0, 0)
                self.told([deck, tuple(range(cards))], [bench.deck(), bench.order()])
                self.assertIs(type(bench), Bench)
                self.looks(Bench(size=size, deck=deck), bench.standing(), 0, 0)
                self.looks(Bench(deck=deck, size=size), bench.standing(), 0, 0)

    def test_the_methods_stand_in_the_class(self):
        names = ("standing deck order done claims text undoable redoable is_same copied "
                 "thrown sheeted claim release undo redo").split()
        for name in names:
            self.assertIn(name, vars(Bench))
        self.told((object,), Bench.__bases__)
        self.told("lotthrows.benches", Bench.__module__)

    def test_any_value_that_is_no_size_or_no_deck(self):
        for size in NO_SIZES:
            self.refused(BadSize, size, Bench, size, (0,))
            self.refused(BadSize, size, Bench, size, None)
        for deck in NO_DECKS + ((2,), (0, 1, 2)):
            self.refused(BadDeck, deck, Bench, 2, deck)

    def test_is_same(self):
        bench = Bench(3, DECK)
        for thing in NOTHING_VALID + STRINGS + INTEGERS + ((), bench.standing(), Bench):
            self.told(False, bench.is_same(thing))
        others = [Bench(3, DECK), Bench(3, DECK[:-1]), Bench(4, DECK), Bench(3, (1, 0, 2, 1, 1))]
        for deed in (lambda bench: bench.thrown(SORT), lambda bench: bench.claim(("first", 0)),
                     lambda bench: bench.claim(("pair", 0, 1)), lambda bench: bench.thrown(turning(3))):
            others.append(Bench(3, DECK))
            deed(others[-1])
        for one, other in product([bench] + others, repeat=2):
            self.told(one.standing() == other.standing(), one.is_same(other))
        self.told([True, True], [bench.is_same(bench), bench.is_same(thing=others[0])])
        bench.thrown(turning(3))
        bench.thrown(turning(3))
        self.told([True, True], [bench.is_same(others[0]), others[0].is_same(bench)])

    def test_claims_in_another_order_are_another_standing(self):
        one, other = Bench(2, (0, 1)), Bench(2, (0, 1))
        for bench, claims in ((one, (("first", 0), ("pair", 0, 1))), (other, (("pair", 0, 1), ("first", 0)))):
            for claim in claims:
                bench.claim(claim)
        self.told(False, one.is_same(other))

    def test_copied_benches_are_apart(self):
        bench = Bench(3, DECK)
        bench.thrown(SORT)
        bench.claim(("first", 1))
        bench.claim(("pair", 1, 2))
        bench.undo()
        standing = (3, DECK, SORT, (("first", 1),))
        copy = bench.copied()
        self.assertIsNot(copy, bench)
        self.looks(copy, standing, 0, 0)
        self.looks(bench, standing, 2, 1)
        self.told(True, copy.is_same(bench))
        copy.release(("first", 1))
        copy.thrown(turning(3))
        self.looks(bench, standing, 2, 1)
        self.looks(copy, (3, DECK, both(SORT, turning(3)), ()), 2, 0)
        bench.redo()
        bench.undo()
        bench.undo()
        self.looks(bench, (3, DECK, SORT, ()), 1, 2)
        self.looks(copy, (3, DECK, both(SORT, turning(3)), ()), 2, 0)
        copy.undo()
        copy.undo()
        self.unchanged(copy, NothingToUndo, copy.undo)


class DeedsTest(BenchCase):
    def do(self, model, draw):
        """One drawn deed, undo or redo at the bench, and the same at the model."""
        bench, (size, deck, done, claims) = model.bench, model.now()
        kind = draw.choice(("thrown", "sheeted", "claim", "claim", "claim", "release", "undo", "undo", "redo"))
        if kind in ("undo", "redo"):
            there = model.at + (1 if kind == "redo" else -1)
            if not 0 <= there < len(model.standings):
                self.unchanged(bench, NothingToRedo if kind == "redo" else NothingToUndo, getattr(bench, kind))
            else:
                self.told(None, getattr(bench, kind)())
                model.at = there
            return
        if kind == "release":
            words = draw.choice(all_claims(size, len(deck)) + list(claims) * 20)
            if words not in claims:
                self.refuses(bench, NoClaim, words, bench.release, words)
                return
            call, after = (bench.release, words), (done, tuple(claim for claim in claims if claim != words))
        elif kind == "claim":
            words = draw.choice(all_claims(size, len(deck)))
            if words in claims:
                self.refuses(bench, BadClaim, words, bench.claim, words)
                return
            call, after = (bench.claim, words), (done, claims + (words,))
        elif kind == "thrown":
            throw = draw.choice((drawn_throw(size, draw), still(size)))
            call, after = (bench.thrown, throw), (both(done, throw), claims)
        else:
            desk = draw.choice(DESKS)
            sheet = tuple(draw.choices(range(len(desk)), k=size))
            call, after = (bench.sheeted, desk, sheet), (both(done, throw_by(desk, sheet)), claims)
        unkept = [claim for claim in after[1] if not holds(claim, deck, order_after(after[0], deck))]
        if unkept:
            self.told(unkept[0], self.unchanged(bench, Unkept, *call).claim)
        else:
            self.told(None, call[0](*call[1:]))
            model.came((size, deck) + after)

    def test_drawn_deeds_against_a_list_of_standings(self):
        draw = Random(122)
        for size, cards, deeds in ((1, 3, 40), (2, 4, 60), (3, 5, 60), (2, 0, 20), (4, 2, 60), (8, 9, 40)) * 4:
            model = Model(Bench(size, tuple(draw.choices(range(size), k=cards))))
            for _ in range(deeds):
                self.do(model, draw)
                self.looks(model.bench, model.now(), model.at, len(model.standings) - model.at - 1)
                self.told(True, read_bench(model.bench.text()).is_same(model.bench))

    def test_each_deed_undone_and_done_again(self):
        bench = Bench(3, DECK)
        deeds = ((bench.thrown, SORT), (bench.claim, ("sorted", (0, 2, 1)[::-1])), (bench.sheeted, SIX, (0, 4, 2)),
                 (bench.claim, ("pair", 1, 4)), (bench.claim, ("first", 1)), (bench.release, ("pair", 1, 4)),
                 (bench.thrown, still(3)), (bench.release, ("first", 1)), (bench.thrown, turning(3)))
        standings = [bench.standing()]
        for method, *args in deeds:
            try:
                method(*args)
            except Unkept:
                continue
            standings.append(bench.standing())
        last = len(standings) - 1
        self.assertGreaterEqual(last, 7)
        for at in range(last - 1, -1, -1):
            self.told(None, bench.undo())
            self.looks(bench, standings[at], at, last - at)
        self.unchanged(bench, NothingToUndo, bench.undo)
        for at in range(1, last + 1):
            self.told(None, bench.redo())
            self.looks(bench, standings[at], at, last - at)
        self.unchanged(bench, NothingToRedo, bench.redo)

    def test_nothing_to_undo_or_to_redo(self):
        bench = Bench(2, (0, 1))
        self.assertEqual(vars(self.unchanged(bench, NothingToUndo, bench.undo)), {})
        self.assertEqual(vars(self.unchanged(bench, NothingToRedo, bench.redo)), {})
        bench.thrown(turning(2))
        self.unchanged(bench, NothingToRedo, bench.redo)
        bench.undo()
        self.unchanged(bench, NothingToUndo, bench.undo)
        bench.redo()
        self.looks(bench, (2, (0, 1), turning(2), ()), 1, 0)

    def test_a_new_deed_leaves_nothing_to_do_again(self):
        for deed in (("thrown", SORT), ("thrown", still(3)), ("sheeted", ("tray",), (0, 0, 0)), ("claim", ("first", 0)),
                     ("release", ("pair", 0, 1))):
            bench = Bench(3, DECK)
            bench.claim(("pair", 0, 1))
            bench.thrown(still(3))
            bench.undo()
            self.told(1, bench.redoable())
            if deed != ("thrown", SORT):
                getattr(bench, deed[0])(*deed[1:])
                self.told([2, 0], [bench.undoable(), bench.redoable()])
                self.unchanged(bench, NothingToRedo, bench.redo)
            else:
                self.told(("pair", 0, 1), self.unchanged(bench, Unkept, bench.thrown, SORT).claim)
                bench.redo()
                self.looks(bench, (3, DECK, still(3), (("pair", 0, 1),)), 2, 0)

    def test_errors_leave_what_can_be_redone(self):
        bench = Bench(3, DECK)
        bench.claim(("first", 0))
        bench.thrown(still(3))
        bench.claim(("pair", 0, 4))
        bench.undo()
        bench.undo()
        standing = bench.standing()
        for error, method, *args in ((BadThrow, bench.thrown, None), (OtherSize, bench.thrown, still(2)),
                                     (Unkept, bench.thrown, SORT),
                                     (BadDesk, bench.sheeted, (), ()), (BadSheet, bench.sheeted, ("tray",), (0, 0)),
                                     (Unkept, bench.sheeted, ("pile",), (0, 0, 0)),
                                     (BadClaim, bench.claim, ("first", 0)),
                                     (BadClaim, bench.claim, ("first", 5)), (Unkept, bench.claim, ("first", 1)),
                                     (NoClaim, bench.release, ("first", 1))):
            self.unchanged(bench, error, method, *args)
        self.looks(bench, standing, 1, 2)
        bench.redo()
        bench.redo()
        self.looks(bench, (3, DECK, still(3), (("first", 0), ("pair", 0, 4))), 3, 0)

    def test_a_deed_that_gives_an_equal_standing_counts(self):
        bench = Bench(2, (0, 1, 0))
        for deed in range(1, 41):
            bench.thrown(still(2))
            self.looks(bench, (2, (0, 1, 0), still(2), ()), deed, 0)
        for deed in range(39, -1, -1):
            bench.undo()
            self.looks(bench, (2, (0, 1, 0), still(2), ()), deed, 40 - deed)
        bench.sheeted(("tray", "pile"), (0, 0))
        self.looks(bench, (2, (0, 1, 0), still(2), ()), 1, 0)

    def test_throws_of_another_size_and_no_throws(self):
        bench = Bench(3, DECK)
        for throw in NO_THROWS:
            self.refuses(bench, BadThrow, throw, bench.thrown, throw)
        for throw in (still(1), still(2), still(4), turning(8), SINGLES):
            self.refuses(bench, OtherSize, throw, bench.thrown, throw)

    def test_sheets_of_another_size_and_no_sheets(self):
        bench = Bench(3, DECK)
        for desk in NO_DESKS:
            self.refuses(bench, BadDesk, desk, bench.sheeted, desk, (0, 0, 0))
            self.refuses(bench, BadDesk, desk, bench.sheeted, desk, None)
        for sheet in NO_SHEETS + ((0,), (0, 1), (0, 0, 0, 0), (0,) * 8, (0, 1, 2), (0, 0, True)):
            self.refuses(bench, BadSheet, sheet, bench.sheeted, ("tray", "pile"), sheet)

    def test_the_throw_by_a_sheet(self):
        for desk in DESKS:
            for sheet in product(range(len(desk)), repeat=2):
                one, other = Bench(2, (0, 1, 1, 0)), Bench(2, (0, 1, 1, 0))
                one.sheeted(desk, sheet)
                other.thrown(throw_by(desk, sheet))
                self.told(True, one.is_same(other))
        bench = Bench(2, (0, 1))
        bench.sheeted(desk=("pile", "tray"), sheet=(1, 0))
        bench.thrown(throw=turning(2))
        self.told(both((((1,), -1), ((0,), 1)), turning(2)), bench.done())


class ClaimsTest(BenchCase):
    def test_all_claims_of_small_decks(self):
        for size, deck in ((1, ()), (1, (0,)), (1, (0, 0)), (2, (1, 0)), (2, (0, 0, 1)), (2, (0, 0, 1, 1)),
                           (3, (2, 0, 1)), (3, (1, 1, 0, 2))):
            for throw in THROWS[size][:: 1 if size < 3 else 5]:
                for claim in all_claims(size, len(deck)):
                    bench = Bench(size, deck)
                    bench.thrown(throw)
                    if holds(claim, deck, order_after(throw, deck)):
                        self.told(None, bench.claim(claim))
                        self.looks(bench, (size, deck, throw, (claim,)), 2, 0)
                        self.refuses(bench, BadClaim, claim, bench.claim, claim)
                    else:
                        self.assertIs(self.unchanged(bench, Unkept, bench.claim, claim).claim, claim)
                        self.looks(bench, (size, deck, throw, ()), 1, 0)

    def test_any_value_that_is_no_claim(self):
        bench = Bench(3, DECK)
        for taken in ((), ("first", 0), ("pair", 1, 2), ("sorted", None)):
            if taken and taken[1] is not None:
                bench.claim(taken)
            for words in NO_CLAIMS:
                self.refuses(bench, BadClaim, words, bench.claim, words)
                self.refuses(bench, NoClaim, words, bench.release, words)
        for words in NO_CLAIMS:
            if isinstance(words, tuple) and words:
                for at in range(1, len(words)):
                    self.assertRaises(ThrowError, bench.release, words)

    def test_values_near_to_claims(self):
        for claim in (("sorted", (1, 0, 2)), ("pair", 0, 1), ("first", 0)):
            bench = Bench(3, (1, 0, 2))
            bench.claim(claim)
            others = {repr(other) for other in all_claims(3, 3) if other != claim}
            for words in near(claim):
                if repr(words) not in others and repr(words) != repr(claim):
                    self.refuses(bench, BadClaim, words, bench.claim, words)
                if repr(words) != repr(claim):
                    self.refuses(bench, NoClaim, words, bench.release, words)

    def test_claims_of_decks_without_cards_and_with_one(self):
        bench = Bench(2, ())
        for words in (("first", 0), ("first", -1), ("pair", 0, 1), ("pair", 0, 0)):
            self.refuses(bench, BadClaim, words, bench.claim, words)
        for kinds in ((0, 1), (1, 0)):
            bench.claim(("sorted", kinds))
        self.looks(bench, (2, (), still(2), (("sorted", (0, 1)), ("sorted", (1, 0)))), 2, 0)
        bench = Bench(2, (1,))
        for words in (("first", 1), ("pair", 0, 1), ("pair", 1, 0), ("pair", 0, 0)):
            self.refuses(bench, BadClaim, words, bench.claim, words)
        bench.claim(("first", 0))
        bench.thrown((((0,), -1), ((1,), -1)))
        self.looks(bench, (2, (1,), (((0,), -1), ((1,), -1)), (("first", 0),)), 2, 0)

    def test_a_pair_of_one_card_twice_and_of_two_cards_either_way(self):
        bench = Bench(1, (0, 0, 0))
        for card in range(3):
            words = ("pair", card, card)
            self.refuses(bench, BadClaim, words, bench.claim, words)
        bench.claim(("pair", 0, 2))
        self.told(("pair", 2, 0), self.unchanged(bench, Unkept, bench.claim, ("pair", 2, 0)).claim)

    def test_the_first_claim_that_would_not_hold(self):
        for claims in permutations((("sorted", (0, 1)), ("pair", 0, 1), ("first", 0))):
            bench = Bench(2, (0, 0, 1))
            for claim in claims:
                bench.claim(claim)
            self.told(claims[0], self.unchanged(bench, Unkept, bench.thrown, turning(2)).claim)
            self.told(claims[0], self.unchanged(bench, Unkept, bench.sheeted, ("pile",), (0, 0)).claim)
            left = tuple(claim for claim in claims if claim[0] != "sorted")
            self.told(left[0], self.unchanged(bench, Unkept, bench.thrown, (((0,), -1), ((1,), 1))).claim)
            bench.release(claims[0])
            self.told(claims[1], self.unchanged(bench, Unkept, bench.thrown, turning(2)).claim)
            bench.claim(claims[0])
            self.looks(bench, (2, (0, 0, 1), still(2), claims[1:] + claims[:1]), 5, 0)
            self.told(claims[1], self.unchanged(bench, Unkept, bench.thrown, turning(2)).claim)
            bench.thrown((((0,), 1), ((1,), -1)))
            self.told(6, bench.undoable())

    def test_release_keeps_the_others_in_their_order(self):
        claims = (("first", 0), ("pair", 0, 1), ("pair", 1, 2), ("sorted", (0, 1)))
        for claim in claims:
            bench = Bench(2, (0, 0, 1))
            for other in claims:
                bench.claim(words=other)
            bench.release(words=claim)
            self.looks(bench, (2, (0, 0, 1), still(2), tuple(other for other in claims if other != claim)), 5, 0)
            self.refuses(bench, NoClaim, claim, bench.release, claim)
            bench.undo()
            self.looks(bench, (2, (0, 0, 1), still(2), claims), 4, 1)

    def test_eight_claims_and_sixty_cards(self):
        deck = (0,) * 30 + (1,) * 30
        bench = Bench(8, deck)
        claims = (("first", 0), ("sorted", tuple(range(8))), ("pair", 0, 59), ("pair", 29, 30), ("pair", 1, 2),
                  ("pair", 58, 59),
                  ("sorted", (2, 0, 3, 1, 4, 5, 6, 7)), ("pair", 0, 1))
        for claim in claims:
            bench.claim(claim)
        self.looks(bench, (8, deck, still(8), claims), 8, 0)
        self.told(True, read_bench(bench.text()).is_same(bench))
        words = ("pair", 59, 60)
        self.refuses(bench, BadClaim, words, bench.claim, words)


class TextTest(BenchCase):
    def right_or_wrong(self, text):
        told = standing_of_text(text)
        if isinstance(told, int):
            self.refused_text(told, read_bench, text)
        else:
            self.looks(read_bench(text), told, 0, 0)
            self.told(text, read_bench(text).text())

    def test_texts_of_benches(self):
        self.looks(read_bench(TEXT), (3, DECK, SORT, (("pair", 1, 2), ("first", 1))), 0, 0)
        self.looks(read_bench(text="size 1\ndeck -\ndone 0-"), (1, (), turning(1), ()), 0, 0)
        draw = Random(123)
        for size in range(1, 9):
            for cards in (0, 1, 12, 60):
                deck, throw = tuple(draw.choices(range(size), k=cards)), drawn_throw(size, draw)
                kept = [claim for claim in all_claims(size, min(cards, 9))[-40:] if holds(claim, deck,
                                                                                          order_after(throw, deck))]
                claims = tuple(draw.sample(kept, min(len(kept), 8)))
                text = text_of(size, deck, throw, claims)
                self.told(text, "\n".join([f"size {size}", "deck " + deck_text(deck), "done " + throw_text(throw)]
                                          + [claim_line(claim) for claim in claims]))
                self.looks(read_bench(text), (size, deck, throw, claims), 0, 0)

    def test_each_place_of_texts_otherwise(self):
        for text in (TEXT, "size 2\ndeck -\ndone 1- 0+\nsorted 10\nsorted 01",
                     "size 1\ndeck 000000000000\ndone 0-\npair 11 10\nfirst 11",
                     "size 4\ndeck 3\ndone 0123+\nfirst 0"):
            self.assertNotIsInstance(standing_of_text(text), int)
            for at in range(len(text) + 1):
                self.right_or_wrong(text[:at])
                self.right_or_wrong(text[at:])
                self.right_or_wrong(text[:at] + text[at + 1:])
                for sign in "01279+- \nsa~":
                    self.right_or_wrong(text[:at] + sign + text[at:])
                    self.right_or_wrong(text[:at] + sign + text[at + 1:])

    def test_lines_left_out_or_twice_or_exchanged(self):
        lines = TEXT.split("\n")
        for at in range(len(lines)):
            self.right_or_wrong("\n".join(lines[:at] + lines[at + 1:]))
            self.right_or_wrong("\n".join(lines[:at + 1] + lines[at:]))
        for order in permutations(lines):
            self.right_or_wrong("\n".join(order))

    def test_too_few_lines_and_a_line_feed_at_the_end(self):
        for text, at in (("", 1), ("\n", 1), ("size 2", 2), ("size 2\n", 2), ("size 2\ndeck 01", 3),
                         ("size 2\ndeck 01\n", 3), ("size 0", 1),
                         ("size 9\ndeck 9", 1), ("size 1\ndeck 1", 2), ("size 1\ndeck 0\ndone 0+\n", 4),
                         (TEXT + "\n", 6), ("\n" + TEXT, 1),
                         (TEXT + "\n\n", 6), ("size 1\ndeck 0\ndone 0+\n\nfirst 0", 4)):
            self.refused_text(at, read_bench, text)

    def test_the_first_wrong_line(self):
        for lines, at in ((("size 3", "deck 3", "done 0", "x"), 2), (("size 3", "deck 2", "done 0", "x"), 3),
                          (("size 3", "deck 2", "done 012+", "x", "y"), 4),
                          (("size 3", "deck 2", "done 012+", "first 0", "first 0", "z"), 5),
                          (("size", "deck", "done"), 1),
                          (("size 3", "deck 2", "done 01+ 2-", "first 0", "pair 0 0"), 5),
                          (("size 2", "deck 01", "done 01+", "pair 0 1", "pair 1 0"), 5),
                          (("size 2", "deck 01", "done 01-", "pair 0 1"), 4),
                          (("size 2", "deck 01", "done 01+", "sorted 10"), 4),
                          (("size 2", "deck 01", "done 01+", "sorted 012"), 4),
                          (("size 2", "deck 01", "done 012+"), 3), (("size 3", "deck 01", "done 01+"), 3)):
            self.refused_text(at, read_bench, "\n".join(lines))
            self.right_or_wrong("\n".join(lines))

    def test_integers_as_python_writes_them(self):
        head = "size 1\ndeck 000000000000\ndone 0+\n"
        for line in ("first 00", "first +0", "first -0", "first 0 ", "first  0", " first 0", "first 0x0", "first 0_0",
                     "first",
                     "first ", "first 12", "pair 0 01", "pair 00 1", "pair 0  1", "pair 0 1 ", "pair 0", "pair 0 1 2",
                     "pair 0 12",
                     "first \u0660", "first 1" + "0" * 1900, "sorted", "sorted ", "sorted 0 ", "sorted 00",
                     "sorted 0 0", "Sorted 0",
                     "sorted -", "first -", "sorted 1", "first 0\r"):
            self.refused_text(4, read_bench, head + line)
        for line in ("first 0", "pair 0 11", "pair 9 10", "sorted 0"):
            self.told(head + line, read_bench(head + line).text())
        for first in ("size 01", "size +1", "size 1 ", " size 1", "size  1", "Size 1", "size1", "size 1.0", "size",
                      "size ", "1", "size -1",
                      "size \u0661", "size 10", "size 1\r"):
            self.refused_text(1, read_bench, first + head[6:-1])

    def test_any_value_that_is_no_string(self):
        for text in NOTHING_VALID + INTEGERS + ((), (TEXT,), [TEXT], TEXT.encode(), Bench(3, DECK)):
            self.refused_text(0, read_bench, text)

    def test_any_string(self):
        draw = Random(124)
        for text in STRINGS:
            self.right_or_wrong(text)
        for _ in range(300):
            self.right_or_wrong("".join(draw.choices("size deckon01+-\n", k=draw.randrange(30))))

    def test_what_a_bench_returns_is_taken(self):
        bench = Bench(3, DECK)
        bench.thrown(SORT)
        self.told([True, True, 3, SORT], [is_throw(bench.done()), is_order(5, bench.order()), size_of(bench.done()),
                                          read_throw(bench.text().split("\n")[2][5:])])
        self.looks(Bench(3, bench.deck()), (3, (0, 2, 0, 1, 1), still(3), ()), 0, 0)
        self.assertRaises(BadText, read_bench, bench.text()[:-1])


if __name__ == "__main__":
    unittest.main()

import unittest
from itertools import product
from random import Random
from time import perf_counter

from lotthrows.decks import is_order, together
from lotthrows.errors import BadDeck, BadEnd, BadKind, BadProgram, BadRun, BadSize
from lotthrows.programs import ends, is_program
from lotthrows.runs import is_run, order_by, run_to
from lotthrows.throws import order_after, still, turning
from helpers import INTEGERS, NO_DECKS, NO_SIZES, NOTHING_VALID, STRINGS, Case, drawn_throw, near
from test_programs import (
    BACK, LOTS, NO_KINDS, NO_PROGRAMS, NOTHING, PARTED, PROGRAMS, SMALL, STILL, TURNED, TWICE, all_runs, drawn_program,
    within_often,
)

CHOICE = ('choice', (STILL, TURNED))
# Values that are no runs of PARTED on the deck (0, 1, 0).
NO_RUNS = NOTHING_VALID + STRINGS + INTEGERS + (
    (), ((), ()), ((), (), (0, 0, 0)), ((), (), (1, 1, 0)), ((), (), (0, 0, 1, 0)), ((), (), (0, 1)), ((), (), (0, 0)),
    ((), (), (0, 1, 0, -1)), ((), (), (0, 1, 0, 2)), ((), (), (-1, 0, 1, 0)), ((), (), ()), ((), (), (0, True, 0)),
    ((), (), (False, 1, 0)), ((), (), (0, 2, 0)), ((), (), (0, -1, 0)),
    ((), (), [0, 1, 0]), ((), [], (0, 1, 0)), ([], (), (0, 1, 0)), [(), (), (0, 1, 0)], ((), None, (0, 1, 0)),
    (None, (), (0, 1, 0)), ((), (), None), ((), (), "010"), ((), (), ("0", "1", "0")), ((), (), (0, 1, 0), ()),
    (((),), (), (0, 1, 0)), ((), ((),), (0, 1, 0)), ((), (), ((0, 1, 0),)), ((), (0, 1, 0), ()), ((0, 1, 0), (), ()),
    ((), (), (0, (1,), 0)), ((), (), {0: 0, 1: 1, 2: 0}), ((), (), (0, None, 0)),
)
NO_ENDS = NOTHING_VALID + STRINGS + INTEGERS + (
    (), "Ahead", "ahead ", " behind", "behin", "kept", "turned", ("ahead",), ["behind"], {"ahead": 1}, "aheadbehind",
    "ahead\n", b"ahead", "sure",
)


class IsRunTest(Case):
    def test_the_examples(self):
        self.told([(1, 2, 0), False, (1, 0)],
                  [order_by(2, PARTED, (0, 1, 0), ((), (), (1, 0, 0))),
                   is_run(2, PARTED, (0, 1, 0), ((), (), (0, 0, 0))),
                   order_by(2, CHOICE, (0, 1), (1, ()))])

    def test_all_runs_of_small_programs(self):
        for program in SMALL:
            for deck in ((), (0,), (1, 0), (0, 1, 0), (1, 1)):
                for run, order in all_runs(program, deck):
                    self.told([True, order], [is_run(2, program, deck, run), order_by(2, program, deck, run)])

    def test_runs_of_drawn_programs(self):
        draw = Random(111)
        tried = 0
        while tried < 60:
            size = draw.choice((1, 2, 3))
            program = drawn_program(size, draw, 4)
            deck = tuple(draw.choices(range(size), k=draw.randrange(5)))
            if is_program(size, program) and len(all_runs(program, (0, 0, 0, 0), 1)) < 400:
                tried += 1
                for run, order in all_runs(program, deck, 1):
                    self.told([True, order], [is_run(size, program, deck, run), order_by(size, program, deck, run)])
                    self.told(True, is_order(len(deck), order))

    def test_just_runs_are_runs(self):
        for program in SMALL:
            for deck in ((), (0,), (1, 0), (0, 1, 0)):
                runs = all_runs(program, deck, 1)
                # Near to a run with something once there are runs with it twice, but none with it three times.
                right = {repr(run) for run, _ in all_runs(program, deck, 2)}
                for run, _ in runs[:: max(1, len(runs) // 6)]:
                    for thing in near(run):
                        self.told(repr(thing) in right, is_run(2, program, deck, thing), (program, deck, thing))

    def test_a_throw_leaves_nothing_to_choose(self):
        for program, order in ((STILL, (0, 1, 2)), (TURNED, (2, 1, 0)), (LOTS, (0, 2, 1)), (BACK, (1, 0, 2))):
            self.told(order, order_by(2, program, (0, 1, 0), ()))
            for thing in NO_RUNS:
                self.told(thing == (), is_run(2, program, (0, 1, 0), thing))

    def test_rows_with_an_item_too_many_or_too_few(self):
        for many in range(4):
            for items in range(6):
                self.told(many == items, is_run(2, ('row', (TURNED,) * many), (0, 1), ((),) * items))
        self.told([(0, 1, 2), (0, 2, 1), (2, 0, 1), (1, 2, 0)],
                  [order_by(2, ('row', row), (0, 1, 0), ((),) * len(row))
                   for row in ((), (LOTS,), (TURNED, LOTS), (LOTS, TURNED))])

    def test_each_program_of_a_row_is_done_on_what_is_left(self):
        row = ('row', (LOTS, PARTED, CHOICE))
        for laid in ((0, 0, 1), (0, 1, 0), (1, 0, 0)):
            for number in (0, 1):
                order = order_by(2, row, (1, 0, 0), ((), ((), (), laid), (number, ())))
                # The kinds 0 come ahead, are turned, and are laid among the other one.
                places = iter((2, 1))
                lying = tuple(0 if part else next(places) for part in laid)
                self.told(lying[::-1] if number else lying, order)

    def test_choices(self):
        for number in (-1, 0, 1, 2, 10 ** 99, True, False, None, "0", (0,)):
            self.told(type(number) is int and number in (0, 1), is_run(2, CHOICE, (0, 1), (number, ())))
        self.told([False] * 6, [is_run(2, CHOICE, (0, 1), thing)
                                for thing in ((0,), (0, (), ()), ((), 0), [0, ()], (0, None), (0, ((),)))])
        self.told([True, False], [is_run(2, ('choice', (CHOICE, PARTED)), (0, 1), run) for run in ((0, (1, ())),
                                                                                                   (1, (1, ())))])

    def test_none_once_twice_and_more(self):
        for times in (0, 1, 2, 3, 60, 400):
            self.told((0, 1, 2) if times % 2 == 0 else (2, 1, 0),
                      order_by(2, ('often', TURNED), (0, 1, 0), ((),) * times))
            self.told((0, 1, 2), order_by(2, TWICE, (0, 1, 0), (((), ()),) * times))
        self.told([False, False, False], [is_run(2, ('often', TURNED), (0, 1), thing) for thing in (None, ((), 0),
                                                                                                    ((), [()]))])
        self.told([True, False], [is_run(2, TWICE, (0, 1), thing) for thing in ((((), ()),), (((),),))])

    def test_partings(self):
        deck = (0, 1, 0, 1)
        for laid in product((0, 1), repeat=4):
            run = ((), (), laid)
            self.told(sum(laid) == 2, is_run(2, PARTED, deck, run))
            if sum(laid) == 2:
                zeros, ones = iter((2, 0)), iter((1, 3))
                self.told(tuple(next(ones) if part else next(zeros) for part in laid), order_by(2, PARTED, deck, run))
        for kinds, laid in (((), (1, 1, 1, 1)), ((0, 1), (0, 0, 0, 0))):
            program = ('parted', kinds, TURNED, LOTS)
            self.told([True, False], [is_run(2, program, deck, ((), (), laid)),
                                      is_run(2, program, deck, ((), (), laid[::-1][1:]))])
            self.told((3, 2, 1, 0) if kinds else (0, 2, 1, 3), order_by(2, program, deck, ((), (), laid)))
        self.told([True, True], [is_run(2, PARTED, (), ((), (), ())), is_run(2, PARTED, (1,), ((), (), (1,)))])

    def test_any_value_that_is_no_run(self):
        for thing in NO_RUNS:
            self.told(False, is_run(2, PARTED, (0, 1, 0), thing))
            self.refused(BadRun, thing, order_by, 2, PARTED, (0, 1, 0), thing)

    def test_decks_of_24_cards_and_runs_of_400_items_answer_at_once(self):
        draw = Random(112)
        started = perf_counter()
        deck = tuple(draw.choices(range(8), k=24))
        throws = tuple(('throw', drawn_throw(8, draw)) for _ in range(5))
        program = ('often', ('choice', throws))
        run = tuple((draw.randrange(5), ()) for _ in range(133))
        order = tuple(range(24))
        for number, _ in run:
            order = together(order, order_after(throws[number][1], tuple(deck[card] for card in order)))
        self.told([True, order], [is_run(8, program, deck, run), order_by(8, program, deck, run)])
        five = within_often(5, throws[0])
        self.told([tuple(range(24)), order_after(throws[0][1], deck)],
                  [order_by(8, five, deck, run) for run in (((), ()), ((((((),),),),),))])
        self.told(True, is_run(8, ('often', throws[0]), deck, ((),) * 400))
        self.assertLess(perf_counter() - started, 2)

    def test_any_value_that_is_none(self):
        for size in NO_SIZES:
            for function in (is_run, order_by):
                self.refused(BadSize, size, function, size, STILL, (), ())
                self.refused(BadSize, size, function, size, None, None, None)
            self.refused(BadSize, size, run_to, size, None, None, None, None)
        for program in NO_PROGRAMS:
            for function in (is_run, order_by):
                self.refused(BadProgram, program, function, 2, program, (), ())
                self.refused(BadProgram, program, function, 2, program, None, None)
            self.refused(BadProgram, program, run_to, 2, program, None, None, None)
        for deck in NO_DECKS + ((2,), (0, 1, 2)):
            for function in (is_run, order_by):
                self.refused(BadDeck, deck, function, 2, PARTED, deck, ((), (), ()))
                self.refused(BadDeck, deck, function, 2, PARTED, deck, None)


class RunToTest(Case):
    def test_the_examples(self):
        self.told([None, ((),)], [run_to(2, STILL, 0, 1, 'behind'), run_to(2, ('row', (TURNED,)), 0, 1, 'behind')])

    def judged_rightly(self, size, program, a, b, left):
        for end, order in (('ahead', (0, 1)), ('behind', (1, 0))):
            run = run_to(size, program, a, b, end)
            self.told(end in left, run is not None, (program, a, b))
            if run is not None:
                self.told([True, order], [is_run(size, program, (a, b), run), order_by(size, program, (a, b), run)])

    def test_a_run_wherever_one_of_the_end_is_there(self):
        for program in PROGRAMS:
            for a, b in product((0, 1), repeat=2):
                orders = {order for _, order in all_runs(program, (a, b))}
                left = [end for end, order in (('ahead', (0, 1)), ('behind', (1, 0))) if order in orders]
                self.judged_rightly(2, program, a, b, left)
                self.told(tuple(left), ends(2, program, a, b))

    def test_drawn_programs(self):
        draw = Random(113)
        tried = 0
        while tried < 300:
            size = draw.choice((1, 2, 3, 8))
            program = drawn_program(size, draw, 6)
            if is_program(size, program):
                tried += 1
                for a, b in ((0, 0), (0, size - 1), (size - 1, 0)):
                    self.judged_rightly(size, program, a, b, ends(size, program, a, b))

    def test_parts_without_cards_and_with_one(self):
        inner = ('row', (CHOICE, ('parted', (0,), ('often', TURNED), ('row', (STILL, CHOICE)))))
        for kinds in ((), (0,), (1,), (0, 1)):
            for one, other in ((inner, TURNED), (TURNED, inner), (inner, inner), (CHOICE, inner)):
                program = ('parted', kinds, one, other)
                for a, b in product((0, 1), repeat=2):
                    orders = {order for _, order in all_runs(program, (a, b), 1)}
                    left = [end for end, order in (('ahead', (0, 1)), ('behind', (1, 0))) if order in orders]
                    self.judged_rightly(2, program, a, b, left)

    def test_nothing_done(self):
        for program, run in ((NOTHING, ()), (('often', TURNED), ()), (('often', NOTHING), ())):
            self.told(run, run_to(2, program, 0, 1, 'ahead'))
        self.told([None, None], [run_to(2, program, 0, 0, 'behind') for program in (NOTHING, ('often', NOTHING))])

    def test_any_value_that_is_no_kind_or_no_end(self):
        for kind in NO_KINDS:
            self.refused(BadKind, kind, run_to, 2, STILL, kind, 0, 'ahead')
            self.refused(BadKind, kind, run_to, 2, STILL, 0, kind, None)
            self.refused(BadKind, kind, run_to, 2, NOTHING, 0, kind, 'ahead')
            self.refused(BadKind, kind, run_to, 2, STILL, kind, None, None)
        for end in NO_ENDS:
            self.refused(BadEnd, end, run_to, 2, STILL, 0, 1, end)

    def test_all_sizes(self):
        for size in range(1, 9):
            self.told([(), None, (), None],
                      [run_to(size, ('throw', still(size)), 0, size - 1, 'ahead'),
                       run_to(size, ('throw', still(size)), 0, size - 1, 'behind'),
                       run_to(size, ('throw', turning(size)), 0, size - 1, 'behind'),
                       run_to(size, ('throw', turning(size)), 0, size - 1, 'ahead')])


if __name__ == "__main__":
    unittest.main()

import unittest
from itertools import combinations, permutations, product
from random import Random
from time import perf_counter

from lotthrows.decks import together
from lotthrows.errors import BadKind, BadOrder, BadProgram, BadSize
from lotthrows.programs import (
    alike_holds, ends, is_program, judge_alike, judge_sorted, parts_of, sorted_holds,
)
from lotthrows.throws import order_after, still, turning
from helpers import INTEGERS, NO_SIZES, NO_THROWS, NOTHING_VALID, STRINGS, THROWS, Case, drawn_throw, near

STILL, TURNED, LOTS = ('throw', (((0, 1), 1),)), ('throw', (((0, 1), -1),)), ('throw', (((0,), 1), ((1,), 1)))
BACK = ('throw', (((1,), 1), ((0,), 1)))
TWICE = ('often', ('row', (TURNED, TURNED)))
PARTED = ('parted', (0,), TURNED, STILL)
NOTHING = ('row', ())
# Programs of two kinds of each form, small and nested.
PROGRAMS = (
    STILL, TURNED, LOTS, BACK, NOTHING, TWICE, PARTED, ('row', (TURNED,)), ('row', (LOTS, TURNED)),
    ('row', (TURNED, LOTS)),
    ('choice', (STILL,)), ('choice', (STILL, TURNED)), ('choice', (LOTS, BACK, TURNED)), ('often', TURNED),
    ('often', LOTS),
    ('often', NOTHING), ('parted', (), TURNED, STILL), ('parted', (0, 1), TURNED, STILL),
    ('parted', (1,), NOTHING, TURNED),
    ('row', (('choice', (STILL, TURNED)), ('often', BACK), LOTS)), ('row', (PARTED, LOTS)), ('row', (PARTED, TURNED)),
    ('choice', (PARTED, ('row', (TURNED, TURNED)))), ('often', ('choice', (TURNED, BACK))), ('often', PARTED),
    ('parted', (1,), ('choice', (STILL, TURNED)), ('often', TURNED)),
    ('parted', (0, 1), ('often', LOTS), ('choice', (BACK, PARTED))),
    ('row', (('parted', (), LOTS, ('row', (BACK, TURNED))), ('often', ('row', (LOTS,))))), ('row', (NOTHING, NOTHING)),
)
NO_PROGRAMS = NOTHING_VALID + STRINGS + INTEGERS + (
    (), ('throw',), ('throw', ()), ('throw', still(1)), ('throw', still(3)), ('throw', still(2), still(2)), still(2),
    ['throw', still(2)], ('throw', [((0, 1), 1)]), ('throw', (((0, 1), True),)), ('Throw', still(2)),
    ('throw ', still(2)),
    ('throws', still(2)), (('throw',), still(2)), {'throw': still(2)}, 'throw', ('throw', STILL), ('throw', None),
    ('row',), ('row', STILL), ('row', [STILL]), ('row', (STILL, None)), ('row', (STILL, still(2))),
    ('row', STILL, STILL),
    ('row', None), ('row', (('throw', still(1)),)), ('row', {}), ('row', ((),)), ('row', (NOTHING, ['row', ()])),
    ('row', 'row'),
    ('choice',), ('choice', ()), ('choice', STILL), ('choice', [STILL]), ('choice', (STILL, ())),
    ('choice', STILL, TURNED),
    ('choice', (('choice', ()),)), ('choice', None), ('choice', ((STILL, TURNED),)),
    ('often',), ('often', ()), ('often', (STILL,)), ('often', STILL, STILL), ('often', None),
    ('often', ('throw', still(3))),
    ('often', ('often',)), ('often', [STILL]), ('oft', STILL),
    ('parted', (0,), STILL), ('parted', STILL, STILL), ('parted', (0,), STILL, TURNED, STILL),
    ('parted', [0], STILL, STILL),
    ('parted', 0, STILL, STILL), ('parted', (0, 0), STILL, STILL), ('parted', (1, 0), STILL, STILL),
    ('parted', (2,), STILL, STILL),
    ('parted', (-1,), STILL, STILL), ('parted', (True,), STILL, STILL), ('parted', (False, 1), STILL, STILL),
    ('parted', ('0',), STILL, STILL), ('parted', None, STILL, STILL), ('parted', (0,), STILL, None),
    ('parted', (0,), None, STILL),
    ('parted', (0,), (), STILL), ('parted', (0,), STILL, still(2)), ('parted', (0, 10 ** 99), STILL, STILL),
    ('parted', {0: 1}, STILL, STILL), ('parted', (0,), STILL, ('throw', still(1))), (None, STILL), (0, 1), ('rows', ()),
    ('', ()),
)
NO_KINDS = NOTHING_VALID + STRINGS + ((), (0,), 2, 3, 7, 8, -1, -2, 10 ** 99, -10 ** 99)
NO_ORDERS = NOTHING_VALID + STRINGS + INTEGERS + (
    (), (0,), (1,), (0, 0), (0, 2), (0, 1, 2), [0, 1], (0, True), (False, 1), ("0", "1"), (-1, 0), ((0, 1),), (0, None),
    {0: 1, 1: 0}, "01",
)


def all_runs(program, deck, times=2):
    """All runs of a program on a deck with their orders; what is done often is done so many times at the most."""
    if program[0] == 'throw':
        return [((), order_after(program[1], deck))]
    if program[0] == 'row':
        return runs_in_a_row(program[1], deck, times)
    if program[0] == 'choice':
        return [((number, run), order) for number, inner in enumerate(program[1])
                for run, order in all_runs(inner, deck, times)]
    if program[0] == 'often':
        return [row for many in range(times + 1) for row in runs_in_a_row((program[1],) * many, deck, times)]
    _, kinds, one, other = program
    first = [card for card, kind in enumerate(deck) if kind in kinds]
    second = [card for card, kind in enumerate(deck) if kind not in kinds]
    found = []
    for (run, order), (other_run, other_order) in product(all_runs(one, tuple(deck[card] for card in first), times),
                                                          all_runs(other, tuple(deck[card] for card in second), times)):
        for places in combinations(range(len(deck)), len(first)):
            laid = tuple(0 if at in places else 1 for at in range(len(deck)))
            rows = [iter([first[at] for at in order]), iter([second[at] for at in other_order])]
            found.append(((run, other_run, laid), tuple(next(rows[part]) for part in laid)))
    return found


def runs_in_a_row(programs, deck, times):
    found = [((), tuple(range(len(deck))))]
    for program in programs:
        found = [(runs + (run,), together(order, step)) for runs, order in found
                 for run, step in all_runs(program, tuple(deck[card] for card in order), times)]
    return found


def ends_by_runs(program, a, b):
    """How a card of the kind a ahead of one of the kind b lies after all runs on the deck of these two cards."""
    orders = {order for _, order in all_runs(program, (a, b))}
    return tuple(end for end, order in (('ahead', (0, 1)), ('behind', (1, 0))) if order in orders)


def goes_against(program, kinds, deck):
    """Whether cards come out of a deck against an order of the kinds by some run."""
    place = {kind: at for at, kind in enumerate(kinds)}
    for _, order in all_runs(program, deck):
        places = [place[deck[card]] for card in order]
        if places != sorted(places):
            return True
    return False


def drawn_program(size, draw, deep):
    """A program of a size, nested so deep at the most."""
    form = draw.choice(('throw', 'row', 'choice', 'often', 'parted')) if deep > 1 else 'throw'
    if form == 'throw':
        return ('throw', drawn_throw(size, draw))
    if form == 'often':
        return ('often', drawn_program(size, draw, deep - 1))
    if form == 'parted':
        kinds = tuple(kind for kind in range(size) if draw.random() < 0.5)
        return ('parted', kinds, drawn_program(size, draw, deep - 1), drawn_program(size, draw, deep - 1))
    inner = tuple(drawn_program(size, draw, deep - 1) for _ in range(draw.randrange(form == 'choice', 4)))
    return (form, inner)


def parts_by_counting(program):
    return 1 + sum(parts_by_counting(inner) for inner in inner_of(program))


def inner_of(program):
    return {'throw': (), 'often': program[1:], 'parted': program[2:]}.get(program[0], program[1])


def within_often(times, program):
    for _ in range(times):
        program = ('often', program)
    return program


SMALL = [program for program in PROGRAMS if len(all_runs(program, (0, 1, 0))) < 500]


class IsProgramTest(Case):
    def test_the_examples(self):
        self.told([True, False, 4], [is_program(2, TWICE), is_program(2, ('choice', ())), parts_of(2, TWICE)])

    def test_each_form(self):
        for program in PROGRAMS:
            self.told([True, False], [is_program(2, program), is_program(2, list(program))])
            self.told(parts_by_counting(program), parts_of(2, program))

    def test_throws_of_the_size(self):
        for size in range(1, 9):
            for other in range(1, 9):
                for wrapped in (('throw', still(other)), ('row', (('throw', turning(other)),)),
                                ('often', ('throw', still(other))), ('parted', (), ('throw', still(other)), NOTHING),
                                ('choice', (NOTHING, ('throw', still(other))))):
                    self.told(size == other, is_program(size, wrapped))
            self.told([True, True], [is_program(size, NOTHING), is_program(size, ('often', NOTHING))])

    def test_kinds_of_a_parted_program(self):
        for size in range(1, 4):
            program = ('throw', still(size))
            for length in range(4):
                for kinds in product(range(-1, 4), repeat=length):
                    right = list(kinds) == sorted(set(kinds)) and all(0 <= kind < size for kind in kinds)
                    self.told(right, is_program(size, ('parted', kinds, program, program)))
        self.told(True, is_program(8, ('parted', tuple(range(8)), NOTHING, NOTHING)))

    def test_forty_parts_and_forty_one(self):
        for inner in (STILL, NOTHING):
            for form in ('row', 'choice'):
                self.told([True, True, False], [is_program(2, (form, (inner,) * many)) for many in (1, 39, 40)])
        ten = ('row', (STILL,) * 9)
        self.told([True, False], [is_program(2, ('choice', (ten, ten, ten, ('row', (STILL,) * many)))) for many in (8,
                                                                                                                    9)])
        self.told([40, 31], [parts_of(2, ('choice', (ten, ten, ten, ('row', (STILL,) * 8)))),
                             parts_of(2, ('row', (ten,) * 3))])
        deep = ('parted', (0,), ('often', ten), ('often', ten))
        self.told(23, parts_of(2, deep))
        self.told([True, False], [is_program(2, ('row', (deep, ('choice', (STILL,) * many)))) for many in (15, 16)])

    def test_six_deep_and_seven(self):
        for inner in (STILL, NOTHING):
            self.told([True, False, False], [is_program(2, within_often(times, inner)) for times in (5, 6, 7)])
            self.told([6], [parts_of(2, within_often(5, inner))])
            for wrap in (lambda program: ('row', (STILL, program)), lambda program: ('choice', (program, STILL)),
                         lambda program: ('parted', (), STILL, program),
                         lambda program: ('parted', (1,), program, STILL)):
                self.told([True, False], [is_program(2, wrap(within_often(times, inner))) for times in (4, 5)])

    def test_any_value_that_is_none(self):
        for thing in NO_PROGRAMS + tuple(('throw', throw) for throw in NO_THROWS):
            for wrapped in (thing, ('often', thing), ('row', (STILL, thing)), ('parted', (0,), thing, STILL)):
                self.told(False, is_program(2, wrapped))
            self.told(False, is_program(2, ('choice', (thing,))))

    def test_values_near_to_one(self):
        # What the form of a program asks, told once more: the odd parts make some near values right, too.
        def is_right(thing):
            if type(thing) is not tuple or len(thing) < 2:
                return False
            if thing[0] == 'throw':
                return len(thing) == 2 and repr(thing[1]) in throws
            if thing[0] in ('row', 'choice'):
                return len(thing) == 2 and type(thing[1]) is tuple and all(map(is_right, thing[1])) and (
                    thing[0] == 'row' or thing[1] != ())
            if thing[0] == 'often':
                return len(thing) == 2 and is_right(thing[1])
            return thing[0] == 'parted' and len(thing) == 4 and repr(thing[1]) in ('()', '(0,)', '(1,)', '(0, 1)') and (
                is_right(thing[2]) and is_right(thing[3]))

        throws = {repr(throw) for throw in THROWS[2]}
        for program in PROGRAMS:
            for thing in near(program):
                self.told(is_right(thing), is_program(2, thing), thing)

    def test_any_value_that_is_no_size_or_no_program(self):
        for size in NO_SIZES:
            self.refused(BadSize, size, is_program, size, STILL)
            for function, more in ((parts_of, ()), (ends, (None, None)), (judge_sorted, (None,)),
                                   (sorted_holds, (None, None)),
                                   (judge_alike, (None,)), (alike_holds, (None, None))):
                self.refused(BadSize, size, function, size, STILL, *more)
                self.refused(BadSize, size, function, size, None, *more)
        for program in NO_PROGRAMS:
            for function, more in ((parts_of, ()), (ends, (None, None)), (judge_sorted, (None,)),
                                   (sorted_holds, (None, None)),
                                   (judge_alike, (None,)), (alike_holds, (None, None))):
                self.refused(BadProgram, program, function, 2, program, *more)
            self.refused(BadProgram, program, judge_alike, 2, STILL, program)
            self.refused(BadProgram, program, alike_holds, 2, STILL, program, None)
        seven, many = within_often(6, STILL), ('row', (STILL,) * 40)
        for program in (seven, many):
            self.refused(BadProgram, program, parts_of, 2, program)


class EndsTest(Case):
    def test_the_examples(self):
        self.told([('ahead',), ('ahead', 'behind'), ('behind',)],
                  [ends(2, TWICE, 0, 1), ends(2, ('choice', (STILL, TURNED)), 1, 1), ends(2, LOTS, 1, 0)])

    def test_small_programs_against_all_runs(self):
        for program in PROGRAMS:
            for a, b in product((0, 1), repeat=2):
                self.told(ends_by_runs(program, a, b), ends(2, program, a, b), (program, a, b))

    def test_drawn_programs_against_all_runs(self):
        draw = Random(101)
        tried = 0
        while tried < 150:
            size = draw.choice((1, 2, 3))
            program = drawn_program(size, draw, 4)
            if is_program(size, program) and len(all_runs(program, (0, 0), 1)) < 400:
                tried += 1
                for a, b in product(range(size), repeat=2):
                    self.told(ends_by_runs(program, a, b), ends(size, program, a, b), (program, a, b))

    def test_other_cards_change_nothing(self):
        for program in SMALL:
            for deck in product((0, 1), repeat=3):
                seen = {}
                for _, order in all_runs(program, deck):
                    for i, j in combinations(range(3), 2):
                        end = 'ahead' if order.index(i) < order.index(j) else 'behind'
                        seen.setdefault((i, j), set()).add(end)
                for (i, j), came in seen.items():
                    self.told(tuple(sorted(came)), ends(2, program, deck[i], deck[j]))

    def test_throws(self):
        for size in (1, 2, 3):
            for throw in THROWS[size]:
                for a, b in product(range(size), repeat=2):
                    end = 'ahead' if order_after(throw, (a, b)) == (0, 1) else 'behind'
                    self.told((end,), ends(size, ('throw', throw), a, b))

    def test_any_value_that_is_no_kind(self):
        for kind in NO_KINDS:
            self.refused(BadKind, kind, ends, 2, TWICE, kind, 0)
            self.refused(BadKind, kind, ends, 2, TWICE, 0, kind)
            self.refused(BadKind, kind, ends, 2, NOTHING, 1, kind)
            self.refused(BadKind, kind, ends, 2, TWICE, kind, None)


class SortedTest(Case):
    def test_the_examples(self):
        self.told([('sure',), 'wrong', False],
                  [judge_sorted(2, ('row', (TURNED, LOTS)), (0, 1)),
                   judge_sorted(2, ('row', (LOTS, TURNED)), (0, 1))[0],
                   sorted_holds(2, STILL, (0, 1), ('wrong', 0, 1))])

    def judged_rightly(self, size, program, kinds, longest=3):
        judged = judge_sorted(size, program, kinds)
        against = any(goes_against(program, kinds, deck) for cards in range(longest + 1)
                      for deck in product(range(size), repeat=cards))
        self.told("wrong" if against else "sure", judged[0], (program, kinds))
        self.told([True, not against], [sorted_holds(size, program, kinds, thing) for thing in (judged, ("sure",))])
        for a, b in product(range(size), repeat=2):
            self.told(a != b and goes_against(program, kinds, (a, b)),
                      sorted_holds(size, program, kinds, ("wrong", a, b)))

    def test_small_programs_against_all_runs(self):
        for program in SMALL:
            for kinds in ((0, 1), (1, 0)):
                self.judged_rightly(2, program, kinds)

    def test_all_throws(self):
        for size in (1, 2, 3):
            for throw in THROWS[size]:
                for kinds in permutations(range(size)):
                    self.judged_rightly(size, ('throw', throw), kinds, 2)

    def test_drawn_programs(self):
        draw = Random(102)
        told = {"sure": 0, "wrong": 0}
        while min(told.values()) < 15 or sum(told.values()) < 60:
            size = draw.choice((2, 3))
            program = drawn_program(size, draw, 3)
            if draw.random() < 0.5:
                kinds = draw.sample(range(size), size)
                program = ('row', (program, ('throw', tuple(((kind,), draw.choice((1, -1))) for kind in kinds))))
            else:
                kinds = list(range(size))
            if is_program(size, program) and len(all_runs(program, (0, 1))) < 150:
                self.judged_rightly(size, program, tuple(kinds), 2)
                told[judge_sorted(size, program, tuple(kinds))[0]] += 1

    def test_one_kind_is_sorted(self):
        for program in (('throw', turning(1)), NOTHING, ('often', ('throw', turning(1)))):
            self.told(('sure',), judge_sorted(1, program, (0,)))

    def test_just_the_right_certificates_hold(self):
        for program in (STILL, LOTS, BACK, PARTED, NOTHING, ('row', (TURNED, LOTS)), ('choice', (LOTS, BACK))):
            for kinds in ((0, 1), (1, 0)):
                right = [("wrong", a, b) for a, b in ((0, 1), (1, 0)) if goes_against(program, kinds, (a, b))]
                right += [] if right else [("sure",)]
                candidates = [("wrong", a, b) for a,
                              b in product((-1, 0, 1, 2, True, False, None), repeat=2)] + [("sure",), ("wrong",)]
                self.only_right_ones_hold(right, candidates, judge_sorted(2, program, kinds), sorted_holds, 2, program,
                                          kinds)

    def test_any_value_that_is_no_order(self):
        for kinds in NO_ORDERS:
            self.refused(BadOrder, kinds, judge_sorted, 2, LOTS, kinds)
            self.refused(BadOrder, kinds, sorted_holds, 2, LOTS, kinds, ("sure",))


class AlikeTest(Case):
    def test_the_examples(self):
        self.told([('alike',), 'unlike'],
                  [judge_alike(2, TWICE, STILL), judge_alike(2, STILL, ('parted', (0,), TURNED, STILL))[0]])

    def test_small_programs_against_all_runs(self):
        found = {program: [ends_by_runs(program, a, b) for a, b in product((0, 1), repeat=2)] for program in PROGRAMS}
        for one, other in product(PROGRAMS, repeat=2):
            judged = judge_alike(2, one, other)
            self.told("alike" if found[one] == found[other] else "unlike", judged[0])
            self.told([True, found[one] == found[other]],
                      [alike_holds(2, one, other, thing) for thing in (judged, ("alike",))])
            for at, (a, b) in enumerate(product((0, 1), repeat=2)):
                self.told(found[one][at] != found[other][at], alike_holds(2, one, other, ("unlike", a, b)))

    def test_choices_of_throws_that_differ_for_three_cards(self):
        orders = [('throw', tuple(((kind,), 1) for kind in kinds)) for kinds in permutations(range(3))]
        every, opposite = ('choice', tuple(orders)), ('choice', (orders[0], orders[-1]))
        self.told([True] * 6, [ends(3, every, a, b) == ends(3, opposite, a, b) == ('ahead', 'behind')
                               for a, b in permutations(range(3), 2)])
        self.told(('alike',), judge_alike(3, every, opposite))
        self.assertNotEqual({order for _, order in all_runs(every, (0, 1, 2))},
                            {order for _, order in all_runs(opposite, (0, 1, 2))})

    def test_just_the_right_certificates_hold(self):
        for one, other in ((STILL, TWICE), (STILL, TURNED), (LOTS, BACK), (NOTHING, STILL), (PARTED, ('often', PARTED)),
                           (('often', TURNED), ('choice', (STILL, TURNED)))):
            pairs = [pair for pair in product((0, 1), repeat=2) if ends_by_runs(one, *pair) != ends_by_runs(other,
                                                                                                            *pair)]
            right = [("unlike", a, b) for a, b in pairs] or [("alike",)]
            candidates = [("unlike", a, b) for a, b in product((-1, 0, 1, 2, True, False, None),
                                                               repeat=2)] + [("alike",), ("unlike",)]
            self.only_right_ones_hold(right, candidates, judge_alike(2, one, other), alike_holds, 2, one, other)


class LargeProgramsTest(Case):
    def test_forty_parts_of_eight_kinds_answer_at_once(self):
        draw = Random(103)
        started = perf_counter()
        throws = [('throw', drawn_throw(8, draw)) for _ in range(16)]
        wide = ('row', tuple(('choice', pair) for pair in zip(throws[:12], throws[4:])) + tuple(throws[:3]))
        deep = ('throw', drawn_throw(8, draw))
        for step in range(5):
            # Behind a choice the cards may lie either way, so what stands behind it is asked for both.
            ahead = (('choice', (throws[0], throws[1])),) if step else ()
            deep = ('row', ahead + (deep, throws[2], throws[3]) + tuple(throws[4:]) * (step == 4))
        self.told([40, 40], [parts_of(8, wide), parts_of(8, deep)])
        for program in (wide, deep):
            judged = judge_sorted(8, program, tuple(range(8)))
            self.told(True, sorted_holds(8, program, tuple(range(8)), judged))
            self.told(('alike',), judge_alike(8, program, program))
            self.told(True, alike_holds(8, program, wide, judge_alike(8, program, wide)))
        self.assertLess(perf_counter() - started, 5)


if __name__ == "__main__":
    unittest.main()

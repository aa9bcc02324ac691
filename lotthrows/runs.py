"""Runs of programs: what was chosen, and the order that comes of it."""

from lotthrows.checks import is_within, need_kind
from lotthrows.decks import laid, need_deck, together
from lotthrows.errors import BadEnd, BadRun
from lotthrows.programs import need_program
from lotthrows.throws import order_after
from lotthrows.twocards import ENDS, runs_to_ends


def order_of_row(programs, deck, things):
    """Return the order by runs of programs, one after the other, None if some value is no run."""
    if len(things) != len(programs):
        return None
    order = tuple(range(len(deck)))
    for program, thing in zip(programs, things):
        step = order_of_run(program, laid(deck, order), thing)
        if step is None:
            return None
        order = together(order, step)
    return order


def is_laid_together(first, second, thing):
    """Tell whether any value tells how two parts are laid together: it has a 0 or 1 for each card of them."""
    if not isinstance(thing, tuple) or not all(is_within(part, 0, 1) for part in thing):
        return False
    return thing.count(0) == len(first) and thing.count(1) == len(second)


def cards_after(program, deck, cards, thing):
    """Return these cards of a deck as they lie after a program, None if the value is no run of it on them."""
    order = order_of_run(program, tuple([deck[card] for card in cards]), thing)
    return None if order is None else [cards[at] for at in order]


def order_of_parts(program, deck, things):
    """Return the order by a run of a parted program, None if the values are no run of it."""
    if len(things) != 3:
        return None
    _, kinds, one, other = program
    first = cards_after(one, deck, [card for card, kind in enumerate(deck) if kind in kinds], things[0])
    second = cards_after(other, deck, [card for card, kind in enumerate(deck) if kind not in kinds], things[1])
    if first is None or second is None or not is_laid_together(first, second, things[2]):
        return None
    parts = (first, second)
    taken = [0, 0]
    order = []
    for part in things[2]:
        order.append(parts[part][taken[part]])
        taken[part] += 1
    return tuple(order)


def order_of_run(program, deck, thing):
    """Return the order of a deck's cards by a run of a program, None for any value that is none."""
    if not isinstance(thing, tuple):
        return None
    if program[0] == "throw":
        return order_after(program[1], deck) if thing == () else None
    if program[0] == "row":
        return order_of_row(program[1], deck, thing)
    if program[0] == "often":
        return order_of_row(program[1:] * len(thing), deck, thing)
    if program[0] == "parted":
        return order_of_parts(program, deck, thing)
    if len(thing) != 2 or not is_within(thing[0], 0, len(program[1]) - 1):
        return None
    number, run = thing
    return order_of_run(program[1][number], deck, run)


def need_program_and_deck(size, program, deck):
    """Raise BadSize, BadProgram, then BadDeck with any value that is no deck of the size."""
    need_program(size, program)
    need_deck(size, deck)


def is_run(size, program, deck, thing):
    """Tell whether any value is a run of a program on a deck."""
    need_program_and_deck(size, program, deck)
    return order_of_run(program, deck, thing) is not None


def order_by(size, program, deck, run):
    """Return the order of a deck's cards by a run of a program."""
    need_program_and_deck(size, program, deck)
    order = order_of_run(program, deck, run)
    if order is None:
        raise BadRun(run)
    return order


def run_to(size, program, a, b, end):
    """Return a run on the deck (a, b) by which the card of the kind a comes out as end tells, None if there is none."""
    need_program(size, program)
    need_kind(size, a)
    need_kind(size, b)
    if end not in ENDS:
        raise BadEnd(end)
    return runs_to_ends(program, a, b).get(end)

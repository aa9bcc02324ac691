"""Test decks, which tell all throws of a size, and what one look more can show."""

from lotthrows.checks import is_marked, is_within, need_size
from lotthrows.decks import need_deck
from lotthrows.errors import BadSize
from lotthrows.facts import all_fitting, need_fit
from lotthrows.rows import is_throw_of_size
from lotthrows.seen import need_facts
from lotthrows.throws import KEPT, TURNED, order_after

MOST_KINDS_LOOKED_AT = 3


def stands_ahead(deck, a, b):
    """Tell whether some card of the kind a lies ahead of another card of the kind b in a deck."""
    return a in deck and b in deck[deck.index(a) + 1:]


def kept_singles(kinds):
    """Return lots of these kinds, each alone and kept."""
    return tuple([((kind,), KEPT) for kind in kinds])


def judge_test(size, deck):
    """Return that a deck tells all throws of the size, or two throws that it does not tell from one another."""
    need_deck(size, deck)
    for a in range(size):
        for b in range(size):
            if not stands_ahead(deck, a, b):
                rest = kept_singles([kind for kind in range(size) if kind not in (a, b)])
                if a == b:
                    return ("same", ((((a,), KEPT),) + rest), ((((a,), TURNED),) + rest))
                # All cards of the kind b lie ahead of those of the kind a: it is the same if they stay so in one lot.
                lot = tuple(sorted([a, b]))
                return ("same", kept_singles([b, a]) + rest, ((lot, KEPT),) + rest)
    return ("tells",)


def test_holds(size, deck, thing):
    """Tell whether any value is a certificate for a deck."""
    need_deck(size, deck)
    if is_marked(thing, "tells", 1):
        return judge_test(size, deck) == ("tells",)
    if not is_marked(thing, "same", 3):
        return False
    _, one, other = thing
    if not is_throw_of_size(size, one) or not is_throw_of_size(size, other):
        return False
    return one != other and order_after(one, deck) == order_after(other, deck)


def least_test(size):
    """Return a deck of as few cards as can be that tells all throws of the size."""
    need_size(size)
    return tuple(range(size)) * 2


def looks_left(size, facts, deck):
    """Return the orders that throws which fit give a deck, each with the number of these throws."""
    if not is_within(size, 1, MOST_KINDS_LOOKED_AT):
        raise BadSize(size)
    need_facts(size, facts)
    need_deck(size, deck)
    need_fit(size, facts)
    numbers = {}
    for throw in all_fitting(size, facts):
        order = order_after(throw, deck)
        numbers[order] = numbers.get(order, 0) + 1
    return tuple(sorted(numbers.items()))

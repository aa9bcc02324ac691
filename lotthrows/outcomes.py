"""What can have come out of a throw, and of which decks it comes."""

from math import factorial

from lotthrows.checks import need_number
from lotthrows.decks import need_deck
from lotthrows.errors import TooMany
from lotthrows.throws import KEPT, position_in, size_of


def can_come(throw, deck):
    """Tell whether a deck is the deck after a throw of some deck."""
    need_deck(size_of(throw), deck)
    lots = [position_in(throw, kind) for kind in deck]
    return lots == sorted(lots)


def cards_in_lots(throw, deck):
    """Return for each lot the kinds of its cards, in the row in which they lay ahead of the throw."""
    rows = []
    for lot, sign in throw:
        row = [kind for kind in deck if kind in lot]
        rows.append(row if sign == KEPT else row[::-1])
    return rows


def went_in(throw, deck):
    """Return how many decks come to a deck, 0 if it cannot come."""
    if not can_come(throw, deck):
        return 0
    number = factorial(len(deck))
    for row in cards_in_lots(throw, deck):
        number //= factorial(len(row))
    return number


def merged(rows):
    """Return all tuples in which the items of the rows stand, those of each row in their order."""
    # Each tuple goes with how many items of each row it has.
    found = [((), (0,) * len(rows))]
    for _ in range(sum([len(row) for row in rows])):
        found = [longer for items, taken in found for longer in one_longer(rows, items, taken)]
    return [items for items, _ in found]


def one_longer(rows, items, taken):
    """Return what comes of a tuple if the next item of any row is put behind it."""
    longer = []
    for at, row in enumerate(rows):
        if taken[at] < len(row):
            longer.append((items + (row[taken[at]],), taken[:at] + (taken[at] + 1,) + taken[at + 1:]))
    return longer


def all_in(throw, deck, *, most=256):
    """Return all decks that come to a deck, ascending."""
    number = went_in(throw, deck)
    need_number(most)
    if number > most:
        raise TooMany(most)
    if number == 0:
        return ()
    return tuple(sorted(merged(cards_in_lots(throw, deck))))

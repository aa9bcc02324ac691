"""What can have come out of a throw, and of which decks it comes."""

from math import factorial

from lotthrows.checks import need_number
from lotthrows.decks import need_deck
from lotthrows.errors import TooMany
from lotthrows.throws import KEPT, position_in, size_of


def can_come(throw, deck):
    """Tell whether a deck is the deck after a throw of some deck."""
    need_deck(size_of(throw), deck)
    lots = [position_in(throw, kind) for kind in deck]
    return lots == sorted(lots)


def cards_in_lots(throw, deck):
    """Return for each lot the kinds of its cards, in the row in which they lay ahead of the throw."""
    rows = []
    for lot, sign in throw:
        row = [kind for kind in deck if kind in lot]
        rows.append(row if sign == KEPT else row[::-1])
    return rows


def went_in(throw, deck):
    """Return how many decks come to a deck, 0 if it cannot come."""
    if not can_come(throw, deck):
        return 0
    number = factorial(len(deck))
    for row in cards_in_lots(throw, deck):
        number //= factorial(len(row))
    return number


def one_card_longer(rows, deck, taken):
    """Return what comes of a deck, and of how many cards it has of each row, if any row's next card is laid behind."""
    longer = []
    for at, row in enumerate(rows):
        if taken[at] < len(row):
            longer.append((deck + (row[taken[at]],), taken[:at] + (taken[at] + 1,) + taken[at + 1:]))
    return longer


def laid_among(rows):
    """Return all decks in which the cards of the rows lie among one another, those of each row in their order."""
    found = [((), (0,) * len(rows))]
    for _ in range(sum([len(row) for row in rows])):
        found = [longer for deck, taken in found for longer in one_card_longer(rows, deck, taken)]
    return [deck for deck, _ in found]


def all_in(throw, deck, *, most=256):
    """Return all decks that come to a deck, ascending."""
    number = went_in(throw, deck)
    need_number(most)
    if number > most:
        raise TooMany(most)
    if number == 0:
        return ()
    return tuple(sorted(laid_among(cards_in_lots(throw, deck))))

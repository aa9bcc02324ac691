"""Decks, orders of their cards, counts of their kinds, and texts of decks."""

from lotthrows.checks import MOST_KINDS, is_integer, is_kind, need_number, need_size
from lotthrows.errors import BadDeck, BadOrder, BadText

MOST_CARDS = 60
DIGITS = "01234567"
NO_CARDS = "-"


def is_deck(size, thing):
    """Tell whether any value is a deck of the size."""
    need_size(size)
    if not isinstance(thing, tuple) or len(thing) > MOST_CARDS:
        return False
    return all(is_kind(size, card) for card in thing)


def is_order(n, thing):
    """Tell whether any value is an order of n cards."""
    need_number(n)
    if not isinstance(thing, tuple) or len(thing) != n:
        return False
    return all(is_integer(card) for card in thing) and sorted(thing) == list(range(n))


def need_deck(size, thing):
    """Raise BadSize, then BadDeck with any value that is no deck of the size."""
    if not is_deck(size, thing):
        raise BadDeck(thing)


def need_order(n, thing):
    """Raise BadNumber, then BadOrder with any value that is no order of n cards."""
    if not is_order(n, thing):
        raise BadOrder(thing)


def need_some_order(thing):
    """Raise BadOrder with any value that is no order of some number of cards."""
    if not isinstance(thing, tuple) or len(thing) > MOST_CARDS:
        raise BadOrder(thing)
    need_order(len(thing), thing)


def laid(deck, order):
    """Return the deck that comes when the deck is laid by the order."""
    need_deck(MOST_KINDS, deck)
    need_order(len(deck), order)
    return tuple([deck[card] for card in order])


def together(one, other):
    """Return the order that laying by one, and then by other, comes to."""
    need_some_order(one)
    need_order(len(one), other)
    return tuple([one[at] for at in other])


def undone_order(order):
    """Return the order that together with the order leaves all cards where they lay."""
    need_some_order(order)
    undone = [0] * len(order)
    for at, card in enumerate(order):
        undone[card] = at
    return tuple(undone)


def opposite(order):
    """Return the order with its items in the opposite row."""
    need_some_order(order)
    return order[::-1]


def counts_of(size, deck):
    """Return for each kind of the size how many cards of it the deck has."""
    need_deck(size, deck)
    return tuple([deck.count(kind) for kind in range(size)])


def kinds_text(kinds):
    """Return the kinds as digits, one behind another."""
    return "".join([str(kind) for kind in kinds])


def read_kinds(text):
    """Return the kinds of a string of digits, None if it has another character."""
    # int() alone would also take digits beyond ASCII.
    if not all(digit in DIGITS for digit in text):
        return None
    return tuple([int(digit) for digit in text])


def deck_text(deck):
    """Return the text of a deck."""
    need_deck(MOST_KINDS, deck)
    if deck == ():
        return NO_CARDS
    return kinds_text(deck)


def read_deck(text):
    """Return the deck of a text."""
    if not isinstance(text, str):
        raise BadText(0)
    if text == NO_CARDS:
        return ()
    deck = read_kinds(text)
    # The empty string has no kinds, but the deck without cards has a text of its own.
    if text == "" or not is_deck(MOST_KINDS, deck):
        raise BadText(1)
    return deck

"""Throws: lots of kinds in a row, each of them kept or turned."""

from lotthrows.checks import MOST_KINDS, are_kinds, is_ascending, is_integer, need_kind, need_size
from lotthrows.decks import kinds_text, laid, need_deck, read_kinds
from lotthrows.errors import BadText, BadThrow

KEPT = 1
TURNED = -1
SIGN_OF_MARK = {"+": 1, "-": -1}


def is_lot(thing):
    """Tell whether any value is an ascending tuple of one or more kinds."""
    if not isinstance(thing, tuple) or thing == ():
        return False
    return are_kinds(MOST_KINDS, thing) and is_ascending(thing)


def is_signed_lot(thing):
    """Tell whether any value is a pair of a lot and a sign."""
    if not isinstance(thing, tuple) or len(thing) != 2:
        return False
    lot, sign = thing
    return is_lot(lot) and is_integer(sign) and sign in (KEPT, TURNED)


def is_throw(thing):
    """Tell whether any value is a throw of some size."""
    if not isinstance(thing, tuple) or thing == ():
        return False
    if not all(is_signed_lot(pair) for pair in thing):
        return False
    kinds = [kind for lot, _ in thing for kind in lot]
    return sorted(kinds) == list(range(len(kinds)))


def need_throw(thing):
    """Raise BadThrow with any value that is no throw."""
    if not is_throw(thing):
        raise BadThrow(thing)


def size_of(throw):
    """Return the size of a throw."""
    need_throw(throw)
    return sum([len(lot) for lot, _ in throw])


def still(size):
    """Return the throw of the size that leaves all cards as they lie."""
    need_size(size)
    return ((tuple(range(size)), KEPT),)


def turning(size):
    """Return the throw of the size that turns the whole deck."""
    need_size(size)
    return ((tuple(range(size)), TURNED),)


def position_in(throw, kind):
    """Return the position of the lot of a kind, in a throw that surely has it."""
    at = 0
    while kind not in throw[at][0]:
        at += 1
    return at


def lot_of(throw, kind):
    """Return the position of the lot of a kind."""
    need_kind(size_of(throw), kind)
    return position_in(throw, kind)


def way_of(throw, a, b):
    """Return the way that the kinds a and b have under a throw."""
    size = size_of(throw)
    need_kind(size, a)
    need_kind(size, b)
    at_a = position_in(throw, a)
    at_b = position_in(throw, b)
    if at_a < at_b:
        return "ahead"
    if at_a > at_b:
        return "behind"
    return "kept" if throw[at_a][1] == KEPT else "turned"


def cards_of_lot(lot, sign, deck):
    """Return the cards of a lot as they lie after it is kept or turned."""
    cards = [card for card, kind in enumerate(deck) if kind in lot]
    return cards if sign == KEPT else cards[::-1]


def order_after(throw, deck):
    """Return the order of the cards of a deck after a throw."""
    need_deck(size_of(throw), deck)
    return tuple([card for lot, sign in throw for card in cards_of_lot(lot, sign, deck)])


def deck_after(throw, deck):
    """Return the deck as it lies after a throw."""
    return laid(deck, order_after(throw, deck))


def signed_lot_text(lot, sign):
    """Return the text of a lot and its sign."""
    mark = "+" if sign == KEPT else "-"
    return kinds_text(lot) + mark


def throw_text(throw):
    """Return the text of a throw."""
    need_throw(throw)
    return " ".join([signed_lot_text(lot, sign) for lot, sign in throw])


def read_signed_lot(word):
    """Return what stands for a lot and its sign in a word, None if the word does not end in a sign."""
    # Whether the kinds make a lot at all is left to the one who asks.
    mark = word[-1:]
    if mark not in SIGN_OF_MARK:
        return None
    return read_kinds(word[:-1]), SIGN_OF_MARK[mark]


def read_throw(text):
    """Return the throw of a text."""
    if not isinstance(text, str):
        raise BadText(0)
    throw = tuple([read_signed_lot(word) for word in text.split(" ")])
    if not is_throw(throw):
        raise BadText(1)
    return throw

"""Desks of trays and piles, and sheets that tell onto which place the cards of each kind are thrown."""

from lotthrows.checks import is_size, is_within
from lotthrows.decks import need_deck
from lotthrows.errors import BadDesk, BadSheet
from lotthrows.throws import cards_of_lot, size_of

MOST_PLACES = 6
PLACES = ("tray", "pile")
SIGN_OF_PLACE = {"tray": 1, "pile": -1}


def is_desk(thing):
    """Tell whether any value is a desk."""
    if not isinstance(thing, tuple) or not is_within(len(thing), 1, MOST_PLACES):
        return False
    return all(place in PLACES for place in thing)


def need_desk(thing):
    """Raise BadDesk with any value that is no desk."""
    if not is_desk(thing):
        raise BadDesk(thing)


def is_sheet(desk, thing):
    """Tell whether any value is a sheet of some size for a desk."""
    need_desk(desk)
    if not isinstance(thing, tuple) or not is_size(len(thing)):
        return False
    return all(is_within(place, 0, len(desk) - 1) for place in thing)


def need_sheet(desk, thing):
    """Raise BadDesk, then BadSheet with any value that is no sheet for the desk."""
    if not is_sheet(desk, thing):
        raise BadSheet(thing)


def lot_at(desk, sheet, place):
    """Return the kinds that a sheet throws onto a place, and the sign with which they lie there."""
    kinds = [kind for kind, chosen in enumerate(sheet) if chosen == place]
    return tuple(kinds), SIGN_OF_PLACE[desk[place]]


def throw_by(desk, sheet):
    """Return the throw by a sheet."""
    need_sheet(desk, sheet)
    return tuple([lot_at(desk, sheet, place) for place in range(len(desk)) if place in sheet])


def gathered(desk, sheet, deck):
    """Return for each place of the desk the cards that lie there, as they are gathered."""
    need_sheet(desk, sheet)
    need_deck(len(sheet), deck)
    places = []
    for place in range(len(desk)):
        lot, sign = lot_at(desk, sheet, place)
        places.append(tuple(cards_of_lot(lot, sign, deck)))
    return tuple(places)


def first_place(desk, sign, start):
    """Return the first place of the sign from the start on, None if there is none."""
    for place in range(start, len(desk)):
        if SIGN_OF_PLACE[desk[place]] == sign:
            return place
    return None


def sheet_for(desk, throw):
    """Return the least sheet whose throw is the throw, None if there is none."""
    need_desk(desk)
    sheet = [0] * size_of(throw)
    start = 0
    for lot, sign in throw:
        place = first_place(desk, sign, start)
        if place is None:
            return None
        for kind in lot:
            sheet[kind] = place
        start = place + 1
    return tuple(sheet)

"""Claims about how the cards of a deck lie: their form, whether they hold, and their texts."""

from lotthrows.checks import is_marked, is_within
from lotthrows.decks import is_order, kinds_text, read_kinds


def is_claim(size, cards, thing):
    """Tell whether any value is a claim about so many cards of kinds of the size."""
    if is_marked(thing, "sorted", 2):
        return is_order(size, thing[1])
    if is_marked(thing, "first", 2):
        return is_within(thing[1], 0, cards - 1)
    if not is_marked(thing, "pair", 3):
        return False
    _, i, j = thing
    return is_within(i, 0, cards - 1) and is_within(j, 0, cards - 1) and i != j


def is_kept(claim, deck, order):
    """Tell whether a claim holds if the cards of a deck lie in an order."""
    if claim[0] == "sorted":
        ranks = [claim[1].index(deck[card]) for card in order]
        return ranks == sorted(ranks)
    if claim[0] == "first":
        return order[0] == claim[1]
    _, i, j = claim
    return order.index(i) < order.index(j)


def claim_text(claim):
    """Return the line of a claim."""
    if claim[0] == "sorted":
        return "sorted " + kinds_text(claim[1])
    return " ".join([claim[0]] + [str(card) for card in claim[1:]])


def read_card(cards, word):
    """Return the card of a word, None if it is none of so many cards."""
    # Only what Python writes is a card's number, so the word is not read but looked for.
    words = [str(card) for card in range(cards)]
    return words.index(word) if word in words else None


def read_claim(size, cards, line):
    """Return the claim of a line, None if it is none about so many cards of kinds of the size."""
    mark, *words = line.split(" ")
    if mark == "sorted":
        claim = (mark,) + tuple([read_kinds(word) for word in words])
    else:
        claim = (mark,) + tuple([read_card(cards, word) for word in words])
    return claim if is_claim(size, cards, claim) else None

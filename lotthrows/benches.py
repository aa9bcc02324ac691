"""Benches: a live deck that is thrown, and claims that it always keeps."""

from lotthrows.checks import MOST_KINDS
from lotthrows.claims import claim_text, is_claim, is_kept, read_claim
from lotthrows.decks import deck_text, is_deck, laid, need_deck, read_deck
from lotthrows.errors import BadClaim, BadSheet, BadText, NoClaim, NothingToRedo, NothingToUndo, OtherSize, Unkept
from lotthrows.rows import is_throw_of_size, joined
from lotthrows.sheets import is_sheet, throw_by
from lotthrows.throws import order_after, read_throw, size_of, still, throw_text


class Bench:
    """A deck whose cards are thrown, with what was done since its beginning and claims about how its cards lie."""

    def __init__(self, size, deck):
        need_deck(size, deck)
        self._size = size
        self._beginning = deck
        # What is done and the claims, now, ahead of each deed that can be undone, and behind each that was undone.
        self._now = (still(size), ())
        self._past = []
        self._future = []

    def standing(self):
        """Return the size, the beginning, what is done, and the claims."""
        done, claims = self._now
        return (self._size, self._beginning, done, claims)

    def deck(self):
        """Return the deck as it lies now."""
        return laid(self._beginning, self.order())

    def order(self):
        """Return the order of the cards now."""
        return order_after(self.done(), self._beginning)

    def done(self):
        """Return the throw that was done since the beginning."""
        return self._now[0]

    def claims(self):
        """Return the claims, in the order in which they were taken up."""
        return self._now[1]

    def text(self):
        """Return the text of the bench."""
        done, claims = self._now
        lines = [f"size {self._size}", "deck " + deck_text(self._beginning), "done " + throw_text(done)]
        return "\n".join(lines + [claim_text(claim) for claim in claims])

    def undoable(self):
        """Return how many deeds can be undone."""
        return len(self._past)

    def redoable(self):
        """Return how many deeds can be done again."""
        return len(self._future)

    def is_same(self, thing):
        """Tell whether any value is a bench with an equal standing."""
        return isinstance(thing, Bench) and thing.standing() == self.standing()

    def copied(self):
        """Return a new bench with the same standing and nothing to undo or to do again."""
        return bench_with(self._size, self._beginning, self.done(), self.claims())

    def thrown(self, throw):
        """Throw the cards by a throw of the bench's size."""
        if size_of(throw) != self._size:
            raise OtherSize(throw)
        self._go_on(joined(self.done(), throw), self.claims())

    def sheeted(self, desk, sheet):
        """Throw the cards by a sheet of the bench's size."""
        if not is_sheet(desk, sheet) or len(sheet) != self._size:
            raise BadSheet(sheet)
        self._go_on(joined(self.done(), throw_by(desk, sheet)), self.claims())

    def claim(self, words):
        """Take a claim up, which has to hold from now on."""
        if not is_claim(self._size, len(self._beginning), words) or words in self.claims():
            raise BadClaim(words)
        self._go_on(self.done(), self.claims() + (words,))

    def release(self, words):
        """Give a claim up."""
        # A value may be equal to a claim and yet be none: True is equal to 1.
        if not is_claim(self._size, len(self._beginning), words) or words not in self.claims():
            raise NoClaim(words)
        self._go_on(self.done(), tuple([claim for claim in self.claims() if claim != words]))

    def undo(self):
        """Take the last deed back that is not undone."""
        if self._past == []:
            raise NothingToUndo()
        self._future.append(self._now)
        self._now = self._past.pop()

    def redo(self):
        """Do the deed again that was undone last."""
        if self._future == []:
            raise NothingToRedo()
        self._past.append(self._now)
        self._now = self._future.pop()

    def _go_on(self, done, claims):
        """Count a deed that leaves this done and these claims, or raise Unkept with the first that would not hold."""
        order = order_after(done, self._beginning)
        for claim in claims:
            if not is_kept(claim, self._beginning, order):
                raise Unkept(claim)
        self._past.append(self._now)
        self._future = []
        self._now = (done, claims)


def bench_with(size, beginning, done, claims):
    """Return a new bench with a standing whose claims hold."""
    bench = Bench(size, beginning)
    bench._now = (done, claims)
    return bench


def size_of_line(line):
    """Return the size of the line of a bench's text, None if it is no such line."""
    for size in range(1, MOST_KINDS + 1):
        if line == f"size {size}":
            return size
    return None


def text_behind(line, word):
    """Return what stands behind a word and a blank in a line, None if the line does not begin so."""
    first, _, rest = line.partition(" ")
    # A line without a blank has nothing behind it, and no text of a deck or a throw is empty.
    return rest if first == word else None


def deck_of_line(size, line):
    """Return the deck of the line of a bench's text, None if it is no such line."""
    try:
        deck = read_deck(text_behind(line, "deck"))
    except BadText:
        return None
    return deck if is_deck(size, deck) else None


def throw_of_line(size, line):
    """Return the throw of the line of a bench's text, None if it is no such line."""
    try:
        throw = read_throw(text_behind(line, "done"))
    except BadText:
        return None
    return throw if is_throw_of_size(size, throw) else None


def need_line(at, thing):
    """Raise BadText with the number of a line that was read as None."""
    if thing is None:
        raise BadText(at)


def read_claims(size, deck, order, lines):
    """Return the claims of lines of a bench's text, of which the fourth one is the first that is read."""
    claims = ()
    for at, line in enumerate(lines):
        claim = read_claim(size, len(deck), line)
        need_line(at + 4, claim)
        if claim in claims or not is_kept(claim, deck, order):
            raise BadText(at + 4)
        claims += (claim,)
    return claims


def read_bench(text):
    """Return a new bench with the standing of a text."""
    if not isinstance(text, str):
        raise BadText(0)
    lines = text.split("\n")
    # A line that is lacking is read as an empty one, which is wrong, too.
    filled = lines + ["", ""]
    size = size_of_line(filled[0])
    need_line(1, size)
    deck = deck_of_line(size, filled[1])
    need_line(2, deck)
    done = throw_of_line(size, filled[2])
    need_line(3, done)
    return bench_with(size, deck, done, read_claims(size, deck, order_after(done, deck), lines[3:]))

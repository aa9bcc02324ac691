import unittest
from itertools import combinations, permutations, product
from random import Random

from lotthrows.decks import together
from lotthrows.errors import BadChoice, BadNumber, BadWord
from lotthrows.rows import both, row_of
from lotthrows.throws import deck_after, order_after, still, turning
from lotthrows.words import (
    all_plain, are_alike_kept, is_choice, is_word, judge_words, last_stands, plain_number, plain_word, throw_of,
    words_hold,
)
from helpers import INTEGERS, NO_THROWS, NOTHING_VALID, SORT, STRINGS, THROWS, Case, drawn_throw, near

TURN, PART, STAY = (((0, 1), -1),), (((0,), 1), ((1,), 1)), (((0, 1), 1),)
CHOICE = (TURN, PART, STAY, STAY, STAY)
OTHER_WORDS = (
    "f", "A", "E", " ", "a ", " a", "a\n", "\n", "a\nb", "abf", "ab1", "a-b", "`", "ab\u00e9", "\u0430", "\uff41",
    "a" * 41, "abcde" * 8 + "a", "a" * 2000, "ab\x00", "a,b",
)
NO_WORDS = NOTHING_VALID + INTEGERS + OTHER_WORDS + (
    (), ("a",), ("a", "b"), ["a"], ["ab"], {"a": 1}, b"ab", b"", (("a",),), " ", "0", "0+", "size 1", "~" * 2000,
)
NO_CHOICES = NOTHING_VALID + STRINGS + INTEGERS + (
    (), (STAY,), (STAY,) * 4, (STAY,) * 6, (STAY,) * 60, [STAY] * 5, STAY, STAY * 5, (STAY,) * 4 + (still(1),),
    (still(1),) + (STAY,) * 4, (STAY,) * 4 + (still(3),), (STAY,) * 4 + (None,), (STAY,) * 4 + ([((0, 1), 1)],),
    (STAY,) * 4 + ((((0, 1), True),),), (STAY,) * 4 + (0,), ("01+",) * 5, (None,) * 5, ("a", "b", "c", "d", "e"),
    {"a": STAY}, ((STAY,) * 5,), (SORT,) * 4 + (STAY,), (still(8),) * 4 + (still(7),), "abcde",
)
# The throws of two kinds one behind the other, by their positions.
TWO = THROWS[2]
AT = {throw: at for at, throw in enumerate(TWO)}
BEHIND = [[AT[both(one, other)] for other in TWO] for one in TWO]
AFTER = [{deck: order_after(throw, deck) for deck in product((0, 1), repeat=2)} for throw in TWO]


def words_of(letters, longest):
    """All words with these letters, shorter ones first, those of one length ascending."""
    return ["".join(word) for length in range(longest + 1) for word in product(letters, repeat=length)]


def all_throws_of(word, letters, throws):
    """The positions of the throws of a word for all choices of throws for the letters."""
    found = []
    for chosen in product(throws, repeat=len(letters)):
        at = AT[STAY]
        for letter in word:
            at = BEHIND[at][AT[chosen[letters.index(letter)]]]
        found.append(at)
    return tuple(found)


def drawn_word(length, draw, letters="abcde"):
    """A word of a length that a random.Random draws."""
    return "".join(draw.choices(letters, k=length))


def orders_apart(one, other, choice, deck):
    """Whether two cards lie otherwise after the throws of two words, which are done one after the other."""
    orders = []
    for word in (one, other):
        order, lying = (0, 1), deck
        for letter in word:
            throw = choice["abcde".index(letter)]
            order, lying = together(order, order_after(throw, lying)), deck_after(throw, lying)
        orders.append(order)
    return orders[0] != orders[1]


SMALL_WORDS = words_of("ab", 5)
BY_THROWS = {word: all_throws_of(word, "ab", TWO) for word in SMALL_WORDS}
THREE_LETTERS = words_of("abc", 4)
BY_THROWS_OF_THREE = {word: all_throws_of(word, "abc", TWO) for word in THREE_LETTERS}


class IsWordTest(Case):
    def test_the_examples(self):
        self.told([True, False], [is_word("abba"), is_word("f")])

    def test_no_letters_forty_and_one_more(self):
        self.told([True, True, True, False], [is_word(""), is_word("a" * 40), is_word("abcde" * 8), is_word("a" * 41)])

    def test_each_sign(self):
        for at in range(256):
            self.told(chr(at) in "abcde", is_word(chr(at)))
            self.told(chr(at) in "abcde", is_word("e" + chr(at) + "a"))

    def test_any_value_that_is_none(self):
        for thing in NO_WORDS:
            self.told(False, is_word(thing))


class IsChoiceTest(Case):
    def test_sizes(self):
        for size in range(1, 9):
            self.told(True, is_choice((still(size),) * 5))
            self.told(True, is_choice((still(size), turning(size), still(size), turning(size), still(size))))
            other = still(size + 1) if size < 8 else still(7)
            for at in range(5):
                self.told(False, is_choice((still(size),) * at + (other,) + (still(size),) * (4 - at)))

    def test_all_throws_of_a_size(self):
        for throw in TWO:
            self.told(True, is_choice((throw, STAY, TURN, PART, throw)))

    def test_any_value_that_is_none(self):
        for thing in NO_CHOICES:
            self.told(False, is_choice(thing))
        for throw in NO_THROWS:
            self.told(False, is_choice((throw, STAY, STAY, STAY, STAY)))
            self.told(False, is_choice((STAY, STAY, STAY, STAY, throw)))

    def test_values_near_to_one(self):
        throws = [repr(throw) for throw in THROWS[1]]
        for thing in near((still(1), turning(1), still(1), turning(1), still(1))):
            right = isinstance(thing, tuple) and len(thing) == 5 and all(repr(throw) in throws for throw in thing)
            self.told(right, is_choice(thing), thing)


class ThrowOfTest(Case):
    def test_the_examples(self):
        self.told([(((0,), -1), ((1,), -1)), (((1,), -1), ((0,), -1))],
                  [throw_of("ab", CHOICE), throw_of("ba", CHOICE)])

    def test_the_empty_word_and_words_of_one_letter(self):
        for size in range(1, 9):
            self.told(still(size), throw_of("", (turning(size),) * 5))
        draw = Random(11)
        choice = tuple(drawn_throw(4, draw) for _ in range(5))
        for letter, throw in zip("abcde", choice):
            self.told(throw, throw_of(letter, choice))

    def test_it_is_the_row_of_the_throws_of_the_letters(self):
        draw = Random(12)
        for size in (1, 2, 3, 4):
            for length in (2, 3, 5, 39, 40):
                choice = tuple(drawn_throw(size, draw) for _ in range(5))
                word = drawn_word(length, draw)
                throws = tuple(choice["abcde".index(letter)] for letter in word)
                self.told(row_of(size, throws), throw_of(word, choice))

    def test_any_value_that_is_no_word(self):
        for word in NO_WORDS:
            self.refused(BadWord, word, throw_of, word, CHOICE)
            self.refused(BadWord, word, throw_of, word, None)

    def test_any_value_that_is_no_choice(self):
        for choice in NO_CHOICES:
            self.refused(BadChoice, choice, throw_of, "ab", choice)
            self.refused(BadChoice, choice, throw_of, "", choice)


class LastStandsTest(Case):
    def test_the_example(self):
        self.told("acb", last_stands("abcacb"))

    def test_letters_by_their_last_stands(self):
        draw = Random(13)
        words = THREE_LETTERS + [drawn_word(length, draw) for length in range(41)] + ["a" * 40, "e", "ab" * 20]
        for word in words:
            letters = sorted(set(word), key=word.rfind)
            self.told("".join(letters), last_stands(word))

    def test_any_value_that_is_no_word(self):
        for word in NO_WORDS:
            self.refused(BadWord, word, last_stands, word)


class JudgeTest(Case):
    def test_the_examples(self):
        self.told([('alike',), 'apart', 'apart', True, False],
                  [judge_words("aaa", "a"), judge_words("ab", "ba")[0], judge_words("abab", "ab")[0],
                   words_hold("ab", "ba", ("apart", CHOICE, (0, 1))), words_hold("aa", "", ("apart", CHOICE, (0, 1)))])

    def judged_rightly(self, one, other, alike):
        judged = judge_words(one, other)
        if alike:
            self.told(("alike",), judged, (one, other))
        else:
            self.assertEqual(("apart", 3), (judged[0], len(judged)), (one, other))
            _, choice, deck = judged
            self.assertTrue(is_choice(choice) and all(throw in AT for throw in choice), judged)
            self.assertIn(deck, AFTER[0])
            self.assertTrue(orders_apart(one, other, choice, deck), (one, other, judged))
        self.told(True, words_hold(one, other, judged))
        self.told(alike, words_hold(one, other, ("alike",)))

    def test_all_pairs_of_words_of_two_letters_against_all_choices(self):
        for one, other in product(SMALL_WORDS, repeat=2):
            self.judged_rightly(one, other, BY_THROWS[one] == BY_THROWS[other])

    def test_pairs_of_words_of_three_letters_against_all_choices(self):
        for one, other in list(combinations(THREE_LETTERS, 2))[::3]:
            self.judged_rightly(one, other, BY_THROWS_OF_THREE[one] == BY_THROWS_OF_THREE[other])

    def test_long_words(self):
        draw = Random(14)
        for length in (10, 39, 40):
            for letters in ("a", "de", "abcde"):
                one = drawn_word(length, draw, letters)
                for other in (one, plain_word(one), drawn_word(length, draw, letters), one[::-1], one[1:], one[2:], ""):
                    self.judged_rightly(one, other, plain_word(one) == plain_word(other))
                    self.judged_rightly(other, one, plain_word(one) == plain_word(other))

    def test_words_that_differ_in_one_thing_alone(self):
        self.judged_rightly("aa", "", False)             # the letters
        self.judged_rightly("aabb", "bbaa", False)       # the row of the last stands
        self.judged_rightly("aaa", "aa", False)          # how often a letter stands
        self.judged_rightly("abba", "aabb", False)
        self.judged_rightly("bbacac", "bacbac", False)   # how often a letter stands behind a last stand
        self.judged_rightly("babcc", "abbcc", False)
        self.judged_rightly("bbabcbc", "babbcbc", False)
        self.judged_rightly("ababab", "aabbab", True)
        self.judged_rightly("eedcbaabcdee", "dcbaabcdee", True)

    def test_alike_words_have_the_same_throw_by_choices_of_other_sizes(self):
        draw = Random(15)
        for one in THREE_LETTERS[::5]:
            for size in (1, 3, 4):
                choice = tuple(drawn_throw(size, draw) for _ in range(5))
                self.told(throw_of(one, choice), throw_of(plain_word(one), choice))

    def test_just_the_right_certificates_hold(self):
        decks = [*product((0, 1), repeat=2), (), (0,), (0, 1, 0), (0, 2), (1, 2)]
        choices = [(one, other, STAY, STAY, TURN) for one, other in product(TWO, repeat=2)]
        candidates = [("alike",)] + [("apart", choice, deck) for choice in choices[::3] for deck in decks]
        candidates += [("apart", (still(3),) + (turning(3),) * 4, (0, 1)),
                       ("apart", (still(1), turning(1)) * 2, (0, 0)),
                       ("apart", (turning(1), still(1)) + (still(1),) * 3, (0, 0)), ("alike", CHOICE, (0, 1)),
                       ("apart", (turning(3), still(3)) + (still(3),) * 3, (0, 1)), ("apart", CHOICE), ("apart",)]
        for one, other in (("ab", "ba"), ("a", ""), ("aa", ""), ("aaa", "a"), ("abab", "ab"), ("", ""), ("ba", "bba")):
            judged = judge_words(one, other)
            right = [("alike",)] if BY_THROWS[one] == BY_THROWS[other] else []
            near_ones = [thing[1] for thing in near(judged) if isinstance(thing, tuple) and len(thing) == 3]
            for choice in choices + [thing for thing in near_ones if is_choice(thing) and all(x in AT for x in thing)]:
                right += [("apart", choice, deck) for deck in decks[:4] if orders_apart(one, other, choice, deck)]
            self.only_right_ones_hold(right, candidates, judged, words_hold, one, other)

    def test_any_value_that_is_no_word(self):
        for word in NO_WORDS:
            for function in (judge_words, are_alike_kept):
                self.refused(BadWord, word, function, word, "ab")
                self.refused(BadWord, word, function, word, None)
                self.refused(BadWord, word, function, "ab", word)
            self.refused(BadWord, word, words_hold, word, "ab", ("alike",))
            self.refused(BadWord, word, words_hold, word, None, None)
            self.refused(BadWord, word, words_hold, "ab", word, None)


class KeptAloneTest(Case):
    def test_the_example(self):
        self.told(True, are_alike_kept("abab", "ab"))

    def test_all_pairs_against_all_choices_of_kept_throws(self):
        kept = [throw for throw in TWO if all(sign == 1 for _, sign in throw)]
        by_throws = {word: all_throws_of(word, "abc", kept) for word in THREE_LETTERS}
        for one, other in product(THREE_LETTERS[::2], THREE_LETTERS):
            self.told(by_throws[one] == by_throws[other], are_alike_kept(one, other))

    def test_long_words(self):
        self.told([True, False, False], [are_alike_kept("ab" * 20, "ab"), are_alike_kept("ab" * 20, "ba"),
                                         are_alike_kept("a" * 40, "")])


class PlainTest(Case):
    def test_the_examples(self):
        self.told(['ab', 'abba', 'bab', 'aabb', 21, 439, ('', 'a', 'aa')],
                  [plain_word("aaab"), plain_word("abba"), plain_word("bab"), plain_word("abbabb"), plain_number(2),
                   plain_number(3), all_plain(1)])

    def test_the_first_of_the_shortest_alike_words_of_two_letters(self):
        first = {}
        for word in SMALL_WORDS:
            first.setdefault(BY_THROWS[word], word)
        for word in SMALL_WORDS:
            self.told(first[BY_THROWS[word]], plain_word(word))

    def test_the_first_of_the_shortest_alike_words_of_three_letters(self):
        first = {}
        for word in THREE_LETTERS:
            first.setdefault(BY_THROWS_OF_THREE[word], word)
        for word in THREE_LETTERS:
            self.told(first[BY_THROWS_OF_THREE[word]], plain_word(word))

    def test_long_words(self):
        draw = Random(16)
        for length in (20, 39, 40):
            for _ in range(20):
                word = drawn_word(length, draw)
                plain = plain_word(word)
                self.told(("alike",), judge_words(word, plain))
                self.told(plain, plain_word(plain))
                self.assertLessEqual(len(plain), 20)
        self.told(["", "aa", "a"], [plain_word(""), plain_word("a" * 40), plain_word("a" * 39)])
        self.told("abcdeabcdebcdecdedee", plain_word("abcdeabcdebcdecdedee"))
        self.told("abcdeabcdebcdecdedee", plain_word("edcba" "a" "edcb" "b" "cde" "c" "ed" "d" "e" "e"))

    def test_as_many_as_the_sum_tells(self):
        for n in range(6):
            number = 0
            for j in range(n + 1):
                number += len(list(permutations(range(n), j))) * 2 ** (j * (j + 1) // 2)
            self.told(number, plain_number(n))
        self.told([1, 3, 21, 439], [plain_number(n) for n in range(4)])

    def test_all_of_them_are_the_plain_words_of_all_words(self):
        for n, longest in ((0, 3), (1, 5), (2, 7), (3, 9)):
            letters = "abc"[:n]
            found = {plain_word(word) for word in words_of(letters, longest)}
            self.told(tuple(sorted(found, key=lambda word: (len(word), word))), all_plain(n))
            self.told(plain_number(n), len(all_plain(n)))

    def test_any_value_that_is_no_word(self):
        for word in NO_WORDS:
            self.refused(BadWord, word, plain_word, word)

    def test_any_value_that_is_no_number_within_the_bounds(self):
        for n in NOTHING_VALID + STRINGS + ((), (0,), -1, 6, 10 ** 99, -10 ** 99):
            self.refused(BadNumber, n, plain_number, n)
        for n in NOTHING_VALID + STRINGS + ((), (0,), -1, 4, 5, 6, 10 ** 99, -10 ** 99):
            self.refused(BadNumber, n, all_plain, n)


if __name__ == "__main__":
    unittest.main()

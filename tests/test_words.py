"""Words (4, 5, 6)."""

import time
import unittest
from fractions import Fraction
from itertools import product
from random import Random

from clockloom.errors import NoPlace, NoWord, TooLong
from clockloom.words import (
    MOST_SIGNS, Word, first_unlike, is_word, joined, least_word, letter, on, ones, other_of,
    place_of, rate,
)
from tests.making import ANYTHING


def texts(most, least=0):
    return ["".join(signs) for many in range(least, most + 1) for signs in product("01", repeat=many)]


SMALL = [(head, again) for head in texts(2) for again in texts(3, 1)]
LONG = 60


def unrolled(word, many=LONG):
    text = word[0]
    while len(text) < many:
        text += word[1]
    return text[:many]


# All words of at most so many signs, the least first: a slow way to the least word.
BY_SIZE = sorted(
    [(head, again) for head in texts(4) for again in texts(4, 1)],
    key=lambda word: (len(word[0]), len(word[1])),
)
LEAST = {}
for one in BY_SIZE:
    LEAST.setdefault(unrolled(one), one)


def slow_on(one, other, many=LONG):
    told, ahead = "", 0
    for sign in unrolled(one, many):
        told += unrolled(other, many)[ahead] if sign == "1" else "0"
        ahead += sign == "1"
    return told


def slow_lengths(one, other):
    head = len(one[0])
    if "1" in one[1]:
        while unrolled(one, head).count("1") < len(other[0]):
            head += 1
    rounds = 1
    while rounds * one[1].count("1") % len(other[1]):
        rounds += 1
    return head, rounds * len(one[1])


class TheWord(unittest.TestCase):
    def test_is_word(self):
        for word in SMALL + [("", "1" * 20000), ("0" * 20000, "1")]:
            self.assertIs(is_word(word), True)
        wrong = [("1" * 20001, "1"), ("", "0" * 20001), ("2", "1"), ("", "1 "), ("", "12"), ("a1", "1"),
                 ("", "1", ""), ["", "1"], (["0"], "1"), ("", ["1"]), (0, 1), (None, "1"), ("1", None),
                 ("1", ""), ("\u0661", "1"), "01", ("1\n", "1"), (("", "1"),), ("0" * 10 ** 6, "1")]
        for thing in wrong + list(ANYTHING):
            self.assertIs(is_word(thing), False, thing)
        for code in list(range(32, 127)) + [10]:
            sign = chr(code)
            self.assertIs(is_word((sign, "1")), sign in "01")
            self.assertIs(is_word(("", "1" + sign)), sign in "01")

    def test_least_of_all_small_ones(self):
        for word in BY_SIZE:
            self.assertEqual(least_word(word), LEAST[unrolled(word)], word)

    def test_one_word_told_in_several_ways(self):
        for word in (("01", "101"), ("01", "101101"), ("011", "011"), ("0110", "110110110")):
            self.assertEqual(least_word(word), ("", "011"))
        for word in (("00", "110"), ("001", "101101"), ("00110", "110110")):
            self.assertEqual(least_word(word), ("0", "011"))
        self.assertEqual(least_word(("000", "0")), ("", "0"))
        self.assertEqual(least_word(("1111", "11")), ("", "1"))
        self.assertEqual(least_word(("0" * 20000, "00")), ("", "0"))
        self.assertEqual(least_word(("01" * 10000, "01" * 10000)), ("", "01"))
        self.assertEqual(least_word(("1", "0" * 20000)), ("1", "0"))
        head, again = "0" + "10" * 9998 + "1", "01" + "0" * 19998
        self.assertEqual(least_word((head + "0", "1" + "0" * 19999)), (head, again))

    def test_letter_ones_place_of(self):
        for word in SMALL:
            text = unrolled(word)
            for k in range(20):
                self.assertIs(letter(word, k), text[k] == "1")
                self.assertEqual(ones(word, k), text[:k].count("1"))
                self.assertIs(type(ones(word, k)), int)
            places = [k for k, sign in enumerate(text) if sign == "1"]
            for k in range(8):
                if k < len(places):
                    self.assertEqual(place_of(word, k), places[k])
                else:
                    with self.assertRaises(NoPlace) as caught:
                        place_of(word, k)
                    self.assertEqual(caught.exception.place, k)

    def test_places_of_thirty_figures(self):
        far = 10 ** 30 - 1
        self.assertEqual(ones(("1", "011"), far), 1 + (far - 1) // 3 * 2 + ((far - 1) % 3 == 2))
        self.assertIs(letter(("", "001"), far), far % 3 == 2)
        self.assertEqual(place_of(("0", "01"), far), 1 + 2 * far + 1)
        self.assertEqual(place_of(("", "1" * 20000), far), far)
        with self.assertRaises(NoPlace) as caught:
            place_of(("111", "0"), far)
        self.assertEqual(caught.exception.place, far)
        self.assertEqual(ones(("111", "0"), far), 3)

    def test_places_that_are_none(self):
        for ask in (letter, ones, place_of):
            for k in (-1, -10 ** 29, True):
                with self.assertRaises(NoPlace) as caught:
                    ask(("", "1"), k)
                self.assertEqual(caught.exception.place, k)

    def test_things_that_are_no_words_go_ahead(self):
        word = ("", "1")
        for thing in ANYTHING:
            asked = [
                lambda: least_word(thing), lambda: other_of(thing), lambda: rate(thing),
                lambda: letter(thing, -1), lambda: ones(thing, -1), lambda: place_of(thing, -1),
                lambda: on(thing, word, most=-1), lambda: on(word, thing, most=-1),
                lambda: on(thing, thing, most=0), lambda: first_unlike(thing, word),
                lambda: first_unlike(word, thing), lambda: joined("", thing),
                lambda: joined("1" * 20000, thing),
            ]
            if thing not in ("1", "01"):
                asked.append(lambda: Word(thing))
            for number, ask in enumerate(asked):
                with self.assertRaises(NoWord, msg=(thing, number)):
                    ask()
        for head in ("2", None, 0, ["0"], "0" * 20001):
            with self.assertRaises(NoWord):
                Word("1", head=head)
        with self.assertRaises(NoWord):
            Word("")

    def test_by_names(self):
        self.assertEqual(least_word(word=("", "11")), ("", "1"))
        self.assertEqual(other_of(word=("", "11")), ("", "0"))
        self.assertEqual(on(other=("", "10"), one=("", "1"), most=9), ("", "10"))
        self.assertEqual(joined(word=("", "1"), text="0"), ("0", "1"))
        self.assertIs(letter(k=1, word=("0", "1")), True)
        self.assertEqual(ones(k=5, word=("0", "1")), 4)
        self.assertEqual(place_of(k=5, word=("0", "1")), 6)
        self.assertEqual(first_unlike(other=("", "1"), one=("", "0")), 0)
        self.assertEqual(rate(word=("", "10")), (1, 2))
        self.assertIs(is_word(thing=("", "1")), True)
        self.assertEqual(Word(again="10", head="1").on(other=Word()).word(), ("1", "10"))
        self.assertIs(Word().has_one(k=0), True)


class WordsOfWords(unittest.TestCase):
    def test_on_is_what_stands_on(self):
        for one in SMALL:
            for other in SMALL:
                self.assertEqual(unrolled(on(one, other)), slow_on(one, other), (one, other))
                self.assertEqual(on(one, other), least_word(on(one, other)))

    def test_on_goes_together(self):
        some = SMALL[::5]
        for one, other, third in product(some, some, some):
            self.assertEqual(on(on(one, other), third), on(one, on(other, third)))
            for k in range(9):
                self.assertEqual(ones(on(one, other), k), ones(other, ones(one, k)))

    def test_rates_are_multiplied(self):
        for one in SMALL:
            for other in SMALL:
                both = Fraction(*rate(one)) * Fraction(*rate(other))
                self.assertEqual(rate(on(one, other)), (both.numerator, both.denominator))

    def test_most_is_as_long_as_the_made_head_and_again(self):
        for one in SMALL:
            for other in SMALL:
                most = max(slow_lengths(one, other))
                self.assertEqual(unrolled(on(one, other, most=most)), slow_on(one, other))
                for less in (most - 1, 0, -1, -10 ** 29):
                    with self.assertRaises(TooLong):
                        on(one, other, most=less)

    def test_lengths_are_those_handed_in(self):
        # Least, both would be of one sign; as handed in, the again is of six signs.
        one, other = ("", "11"), ("", "111")
        self.assertEqual(on(one, other, most=6), ("", "1"))
        with self.assertRaises(TooLong):
            on(one, other, most=5)
        # The made head: the other one's head of three signs wants three 1s.
        one, other = ("", "001"), ("000", "0")
        self.assertEqual(on(one, other, most=9), ("", "0"))
        with self.assertRaises(TooLong):
            on(one, other, most=8)

    def test_a_one_whose_again_has_no_one(self):
        self.assertEqual(on(("01", "00"), ("1" * 20000, "1"), most=2), ("01", "0"))
        self.assertEqual(on(("011", "0"), ("10", "1")), ("01", "0"))
        with self.assertRaises(TooLong):
            on(("01", "00"), ("1", "1"), most=1)

    def test_on_of_long_words(self):
        ones_alone = ("", "1" * 20000)
        self.assertEqual(on(ones_alone, ("", "10" * 10000)), ("", "10"))
        with self.assertRaises(TooLong):
            on(ones_alone, ("", "1" * 19999))
        self.assertEqual(on(ones_alone, ("", "1" * 19999), most=10 ** 29), ("", "1"))
        with self.assertRaises(TooLong):
            on(("", "0" * 19999 + "1"), ("1" * 20000, "1"))
        self.assertEqual(on(("", "1"), ("10", "1"), most=2), ("10", "1"))
        long = on(("", "1" * 199 + "0"), ("", "1" + "0" * 199), most=10 ** 5)
        self.assertEqual(len(long[1]), 40000)

    def test_other_of(self):
        for word in SMALL:
            told = other_of(word)
            self.assertEqual(unrolled(told), unrolled(word).translate({48: "1", 49: "0"}))
            self.assertEqual(told, least_word(told))

    def test_first_unlike(self):
        for one in SMALL:
            for other in SMALL:
                mine, yours = unrolled(one), unrolled(other)
                least = [k for k in range(LONG) if mine[k] != yours[k]]
                self.assertEqual(first_unlike(one, other), least[0] if least else None)
        self.assertIsNone(first_unlike(("01", "101"), ("", "011")))
        # Agains of 5 and 7 signs may be alike at 10 places, but not at 11 of them.
        self.assertEqual(first_unlike(("", "00100"), ("", "0010000")), 7)
        self.assertIsNone(first_unlike(("0" * 20000, "01" * 10000), ("0" * 20000, "01")))
        for many in (5, 50, 20000):
            self.assertEqual(first_unlike(("0" * many, "1"), ("", "0")), many)
            self.assertEqual(first_unlike(("", "0"), ("0" * many, "1")), many)
            self.assertEqual(first_unlike(("0" * many, "0001"), ("0" * (many - 1), "0")), many + 3)
            self.assertEqual(first_unlike(("0" * (many - 1), "0"), ("0" * many, "0001")), many + 3)
        self.assertEqual(first_unlike(("", "0" * 19999 + "1"), ("", "0" * 19998 + "1")), 19998)
        self.assertEqual(first_unlike(("", "0" * 20000), ("0" * 20000, "0" * 19999 + "1")), 39999)

    def test_first_unlike_far_within_both_agains(self):
        # Of agains of p and of p - 1 signs, alike up to the last place at which they can be.
        for size in (3, 4, 5, 6):
            for one in texts(size, size):
                for other in texts(size - 1, size - 1):
                    mine, yours = unrolled(("", one)), unrolled(("", other))
                    least = [k for k in range(LONG) if mine[k] != yours[k]]
                    self.assertEqual(first_unlike(("", one), ("", other)), least[0] if least else None)

    def test_rate(self):
        self.assertEqual(rate(("111", "0110")), (1, 2))
        self.assertEqual(rate(("1", "000")), (0, 1))
        self.assertEqual(rate(("0", "111")), (1, 1))
        self.assertEqual(rate(("", "10110")), (3, 5))
        self.assertTrue(all(type(part) is int for part in rate(("", "10"))))

    def test_joined(self):
        for text in texts(3):
            for word in SMALL:
                told = joined(text, word)
                self.assertEqual(unrolled(told), (text + unrolled(word))[:LONG])
                self.assertEqual(told, least_word(told))

    def test_joined_at_most_signs(self):
        self.assertEqual(joined("0" * 20000, ("", "1")), ("0" * 20000, "1"))
        self.assertEqual(joined("0" * 19999, ("1", "1")), ("0" * 19999, "1"))
        with self.assertRaises(TooLong):
            joined("0" * 20000, ("1", "1"))
        with self.assertRaises(TooLong):
            joined("1", ("1" * 20000, "1"))
        for text in ("0" * 20001, "2", "1 ", "a", "0\n"):
            with self.assertRaises(NoWord):
                joined(text, ("1", "1"))
            with self.assertRaises(NoWord):
                joined(text, None)

    def test_told_soon(self):
        chance = Random(5)
        long = ["".join(chance.choice("01") for _ in range(20000)) for _ in range(4)]
        one, other = (long[0], long[1]), (long[2], long[3])
        begin = time.monotonic()
        for _ in range(10):
            least_word(one)
            first_unlike(one, one)
            first_unlike(one, other)
            place_of(one, 10 ** 29)
            Word(long[1], head=long[0]).other()
            on(("", "1" * 20000), other)
            least_word(("0" * 20000, "0" * 19999 + "1"))
            least_word(("0" * 20000, "01" * 10000))
        self.assertLess(time.monotonic() - begin, 10)


class WordObjects(unittest.TestCase):
    def test_made_of_a_word(self):
        self.assertEqual(Word().word(), ("", "1"))
        self.assertEqual(Word("101101", head="00").word(), ("00", "101"))
        for head, again in SMALL:
            word = Word(again, head=head)
            self.assertEqual(word.word(), least_word((head, again)))
            self.assertEqual(len(word), len("".join(word.word())))
            for k in range(9):
                self.assertIs(word.has_one(k), letter((head, again), k))

    def test_head_by_its_name_alone(self):
        with self.assertRaises(TypeError):
            Word("1", "0")

    def test_has_one_is_refused(self):
        for k in (-1, -7):
            with self.assertRaises(NoPlace) as caught:
                Word().has_one(k)
            self.assertEqual(caught.exception.place, k)

    def test_on_and_other(self):
        for one in SMALL[::3]:
            for other in SMALL[::3]:
                told = Word(one[1], head=one[0]).on(Word(other[1], head=other[0]))
                self.assertIsInstance(told, Word)
                self.assertEqual(told.word(), on(one, other))
        self.assertEqual(Word("10").other().word(), ("", "01"))
        with self.assertRaises(TooLong):
            Word("1" * 199 + "0").on(Word("1" + "0" * 198 + "1"))

    def test_on_by_least_words(self):
        # As handed in the again would be of 20000 * 19999 signs.
        self.assertEqual(Word("1" * 20000).on(Word("1" * 19999)), Word())

    def test_equal_just_where_alike(self):
        for one in SMALL[::2]:
            for other in SMALL[::2]:
                same = Word(one[1], head=one[0]) == Word(other[1], head=other[0])
                self.assertIs(same, unrolled(one) == unrolled(other))
        for thing in ANYTHING + ("1", "(1)", ("", "1"), 1):
            self.assertFalse(Word() == thing)
            self.assertTrue(Word() != thing)

    def test_texts_of_it(self):
        self.assertEqual(str(Word("101", head="01")), "(011)")
        self.assertEqual(str(Word("101", head="00")), "00(101)")
        self.assertEqual(repr(Word("101", head="00")), 'Word("101", head="00")')
        self.assertEqual(str(Word()), "(1)")
        self.assertEqual(repr(Word()), 'Word("1", head="")')
        self.assertEqual(repr(Word("0101")), 'Word("01", head="")')
        for head, again in SMALL:
            word = Word(again, head=head)
            self.assertEqual(eval(repr(word)), word)

    def test_most_signs(self):
        self.assertEqual(MOST_SIGNS, 20000)
        self.assertEqual(len(Word("0" + "1" * 19999, head="0" * 20000)), 39999 + 1)


if __name__ == "__main__":
    unittest.main()

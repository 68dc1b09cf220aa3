"""Words: points [70] to [72] and the interface under steadycover/words.py."""

import unittest
from itertools import combinations, product

from steadycover import words
from steadycover.errors import InvalidWord, LimitExceeded
from steadycover.growth import Demand
from steadycover.tables import Table
from steadycover.words import Word
from tests.samples import LONG_STRINGS, STRANGE_STRINGS, no_strings


def text_of(first, length):
    """The word with this first sign and this length."""
    return (("01" if first == "0" else "10") * length)[:length]


def texts(most):
    return [text_of(first, length) for length in range(1, most + 1) for first in "01"]


def written_where_it_turns(signs):
    word = ""
    for sign in signs:
        if word[-1:] != sign:
            word += sign
    return word


def outcomes(v, w, gate):
    """The words of a gate whose two signals show v and w, for all ways in which they turn one after the other."""
    turns = len(v) + len(w) - 2
    found = set()
    for places in combinations(range(turns), len(v) - 1):
        at, other = 0, 0
        signs = [gate(v[0], w[0])]
        for place in range(turns):
            at, other = (at + 1, other) if place in places else (at, other + 1)
            signs.append(gate(v[at], w[other]))
        found.add(written_where_it_turns(signs))
    return found


def or_of(a, b):
    return "1" if "1" in (a, b) else "0"


def and_of(a, b):
    return "0" if "0" in (a, b) else "1"


def is_cut(text, of):
    return text[0] == of[0] and text[-1] == of[-1] and len(text) <= len(of)


def told(v, w, strong, weak):
    """What [71] says of v | w, where "1" is strong, and of v & w, where "0" is, found among all words."""
    if strong in (v, w):
        return strong
    count = v.count(weak) + w.count(weak) - 1
    first = strong if strong in (v[0], w[0]) else weak
    last = strong if strong in (v[-1], w[-1]) else weak
    lengths = range(1, 2 * count + 2)
    return [t for t in (text_of(first, k) for k in lengths) if t.count(weak) == count and t[-1] == last][0]


def told_or(v, w):
    return told(v, w, "1", "0")


def told_and(v, w):
    return told(v, w, "0", "1")


class WordTest(unittest.TestCase):
    def test_each_text_of_up_to_six_signs(self):
        for length in range(7):
            for signs in product("01", repeat=length):
                text = "".join(signs)
                if length and "00" not in text and "11" not in text:
                    word = Word(text)
                    self.assertEqual((word.text, str(word), len(word)), (text, text, length))
                    self.assertEqual((word.zeros, word.ones), (text.count("0"), text.count("1")))
                else:
                    self.refused(text)

    def refused(self, thing):
        with self.assertRaises(InvalidWord):
            Word(thing)

    def test_a_thousand_signs(self):
        for first in "01":
            for length in (999, 1000):
                text = text_of(first, length)
                word = Word(text)
                self.assertEqual((word.text, len(word), str(word)), (text, length, text))
                self.assertEqual((word.zeros, word.ones), (text.count("0"), text.count("1")))
            for length in (1001, 1002, 5000):
                self.refused(text_of(first, length))
            # Neighbours that are equal at the end, in the middle and at the beginning.
            self.refused(text_of(first, 999) + text_of(first, 999)[-1])
            self.refused(text_of(first, 401) + text_of(first, 401))
            self.refused(first + text_of(first, 999))

    def test_other_signs(self):
        self.assertIn("", STRANGE_STRINGS)
        others = ("-", "0-1", "01 ", " 01", "0\n", "01\n", "0x", "01010a", "2", "012")
        for thing in [*STRANGE_STRINGS, *LONG_STRINGS, *others]:
            if thing != "010101":
                self.refused(thing)
        for at in range(5):
            for sign in ("-", " ", "2", "\n", "\u0661", "\uff10", "x"):
                text = text_of("0", 5)
                self.refused(text[:at] + sign + text[at + 1:])

    def test_things_that_are_no_strings(self):
        for thing in [*no_strings(), Word("0"), Word("01"), Word, [Word("0")], ("0", "1"), b"01", 1, 10]:
            self.refused(thing)

    def test_by_name(self):
        self.assertEqual(Word(text="10").text, "10")

    def test_a_word_has_its_attributes_of_its_own(self):
        word = Word("010")
        self.assertEqual(vars(word).get("text"), "010")
        self.assertEqual((vars(word).get("zeros"), vars(word).get("ones")), (2, 1))
        for number in (word.zeros, word.ones, len(word)):
            self.assertIs(type(number), int)
        self.assertIs(type(str(word)), str)


class EqualTest(unittest.TestCase):
    def test_words(self):
        for one, other in product(texts(7), repeat=2):
            self.assertIs(Word(one) == Word(other), one == other)
            self.assertIs(Word(one) != Word(other), one != other)

    def test_things_that_are_no_words(self):
        for text in texts(3):
            word = Word(text)
            for thing in [*no_strings(), text, list(text), tuple(text), [word], Table("01"), Demand(Table("01"))]:
                if not isinstance(thing, Word):
                    self.assertIs(word == thing, False, thing)
                    self.assertIs(thing == word, False, thing)
                    self.assertIs(word != thing, True, thing)


class OperatorsTest(unittest.TestCase):
    def test_against_all_ways_to_turn(self):
        for v, w in product(texts(6), repeat=2):
            for gate, found in ((or_of, Word(v) | Word(w)), (and_of, Word(v) & Word(w))):
                self.assertIs(type(found), Word)
                possible = outcomes(v, w, gate)
                self.assertIn(found.text, possible, (v, w))
                self.assertTrue(all(is_cut(text, found.text) for text in possible), (v, w))
                self.assertEqual(max(map(len, possible)), len(found))

    def test_against_the_words_of_the_document(self):
        for v, w in product(texts(12), repeat=2):
            self.assertEqual((Word(v) | Word(w)).text, told_or(v, w))
            self.assertEqual((Word(v) & Word(w)).text, told_and(v, w))

    def test_invert(self):
        for text in [*texts(9), text_of("0", 1000), text_of("1", 999)]:
            found = ~Word(text)
            self.assertIs(type(found), Word)
            self.assertEqual(found.text, "".join("0" if sign == "1" else "1" for sign in text))
            self.assertEqual((found.zeros, found.ones), (text.count("1"), text.count("0")))

    def test_by_hand(self):
        self.assertEqual((Word("01") | Word("10")).text, "101")
        self.assertEqual((Word("010") | Word("10")).text, "1010")
        self.assertEqual((Word("0") | Word("0")).text, "0")
        self.assertEqual((Word("0") & Word("0")).text, "0")
        self.assertEqual((Word("1") & Word("1")).text, "1")
        self.assertEqual((Word("1") & Word("0101")).text, "0101")
        self.assertEqual((Word("0") | Word("0101")).text, "0101")
        self.assertEqual((Word("01") & Word("10")).text, "010")

    def test_the_operands_stay(self):
        for v, w in product(texts(4), repeat=2):
            one, other = Word(v), Word(w)
            results = [one | other, one & other, ~one]
            for result in results:
                result.cuts()
            self.assertEqual(vars(one), vars(Word(v)))
            self.assertEqual(vars(other), vars(Word(w)))
            self.assertEqual((one | one).text, told_or(v, v))

    def test_results_of_a_thousand_and_more_signs(self):
        seen = set()
        for length in (1, 2, 3, 4, 5, 6, 7, 8, 498, 499, 500, 501, 502, 503, 504, 994, 995, 996, 997, 998, 999, 1000):
            for other in (1, 2, 3, 4, 5, 6, 7, 496, 497, 498, 499, 500, 501, 502, 503, 504, 505, 997, 998, 999, 1000):
                if not 990 <= length + other <= 1010 and min(length, other) > 1:
                    continue
                for first, first_of_other in product("01", repeat=2):
                    v, w = text_of(first, length), text_of(first_of_other, other)
                    seen.add(self.check(lambda: Word(v) | Word(w), told_or(v, w)))
                    self.check(lambda: Word(v) & Word(w), told_and(v, w))
        self.assertLessEqual({1, 996, 997, 998, 999, 1000, 1001, 1002, 1003}, seen)

    def check(self, call, expected):
        if len(expected) <= 1000:
            self.assertEqual(call().text, expected)
        else:
            with self.assertRaises(LimitExceeded) as caught:
                call()
            self.assertEqual(caught.exception.limit, 1000)
        return len(expected)

    def test_two_words_of_a_thousand_signs(self):
        for first, first_of_other in product("01", repeat=2):
            v, w = text_of(first, 1000), text_of(first_of_other, 1000)
            self.check(lambda: Word(v) | Word(w), told_or(v, w))
            self.check(lambda: Word(v) & Word(w), told_and(v, w))
            # Constant signals keep or hide the other one, however long it is.
            self.assertEqual((Word(v) | Word("0")).text, v)
            self.assertEqual((Word(v) & Word("1")).text, v)
            self.assertEqual((Word(v) | Word("1")).text, "1")
            self.assertEqual((Word("0") & Word(v)).text, "0")


class CutsTest(unittest.TestCase):
    def test_each_short_word(self):
        for text in texts(12):
            found = Word(text).cuts()
            self.assertIs(type(found), list)
            self.assertEqual({type(cut) for cut in found}, {Word})
            expected = [other for other in texts(12) if is_cut(other, text)]
            self.assertEqual([cut.text for cut in found], sorted(expected, key=len))
            self.assertEqual(len(found), len({len(cut) for cut in found}))
            self.assertEqual(found[-1], Word(text))

    def test_by_hand(self):
        self.assertEqual([str(cut) for cut in Word("0").cuts()], ["0"])
        self.assertEqual([str(cut) for cut in Word("10").cuts()], ["10"])
        self.assertEqual([str(cut) for cut in Word("010").cuts()], ["0", "010"])
        self.assertEqual([str(cut) for cut in Word("1010").cuts()], ["10", "1010"])
        self.assertEqual([str(cut) for cut in Word("10101").cuts()], ["1", "101", "10101"])

    def test_a_thousand_signs(self):
        for length, count, shortest in ((1000, 500, 2), (999, 500, 1)):
            found = Word(text_of("1", length)).cuts()
            self.assertEqual([len(cut) for cut in found], list(range(shortest, length + 1, 2)))
            self.assertEqual(len(found), count)

    def test_cuts_of_combined_words(self):
        for v, w in product(texts(5), repeat=2):
            for one, other in product(Word(v).cuts(), Word(w).cuts()):
                self.assertTrue(is_cut((one | other).text, (Word(v) | Word(w)).text))
                self.assertTrue(is_cut((one & other).text, (Word(v) & Word(w)).text))

    def test_a_new_list_on_each_call(self):
        word = Word("10101")
        word.cuts().clear()
        self.assertEqual(len(word.cuts()), 3)


class InterfaceTest(unittest.TestCase):
    def test_all_is_defined_in_this_class(self):
        self.assertEqual(Word.__module__, words.__name__)
        for name in ("__init__", "__or__", "__and__", "__invert__", "__eq__", "__len__", "__str__", "cuts"):
            self.assertIn(name, vars(Word))

    def test_examples_of_the_document(self):
        found = [str(Word("010") | Word("10")), str(Word("01") & Word("10")), str(~Word("101"))]
        self.assertEqual(found, ["1010", "010", "010"])


if __name__ == "__main__":
    unittest.main()

"""The worked examples of the document and those of README.md."""

import doctest
import unittest
from pathlib import Path

from steadycover import errors

README = Path(__file__).resolve().parent.parent / "README.md"

EXAMPLES = r'''
>>> from steadycover.cubes import consensus
>>> consensus("1-0", "01-")
'-10'

>>> from steadycover.cubes import meet, span
>>> [meet("1-0", "01-"), meet("1-0", "-1-"), span("100", "1-1")]
[None, '110', '1--']

>>> from steadycover.tables import Table
>>> Table.told(2, ons=["11"], frees=["00"]).text
'-001'

>>> from steadycover.tables import Table
>>> Table("0111").primes()
['-1', '1-']

>>> from steadycover.changes import nature
>>> from steadycover.tables import Table
>>> nature(Table("01010011"), ("011", "111"))
('high',)

>>> from steadycover.changes import is_uneven
>>> from steadycover.tables import Table
>>> is_uneven(Table("0110"), ("00", "11"), ["00", "10", "11"])
True

>>> from steadycover.covers import longest, played, why
>>> change = ("011", "111")
>>> cover = ["0-1", "11-"]
>>> [why(change, cover), longest(change, cover), played(change, cover, [(1, 0), (0, 0)])]
[('alone',), '101', '1']

>>> from steadycover.covers import flicker
>>> flicker(("011", "111"), ["0-1", "11-"])
[(0, 0), (1, 0)]

>>> from steadycover.covers import calm
>>> calm(("011", "111"), ["0-1", "11-", "-11"])
True

>>> from steadycover.covers import longest, product_words, why
>>> change = ("11", "00")
>>> cover = ["11", "01"]
>>> [why(change, cover), product_words(change, cover), longest(change, cover)]
[('meets', 1), ['10', '010'], '1010']

>>> from steadycover.covers import played
>>> played(("11", "00"), ["11"], [(0, 1), (0, 1)])
raises InvalidOrder(1)

>>> from steadycover.growth import Demand, barred
>>> from steadycover.tables import Table
>>> falls = [("011", "000"), ("101", "000")]
>>> demand = Demand(Table("01010100"), falls)
>>> barred(demand)
('-01', [(0, '--1')], '111')

>>> from steadycover.growth import Demand
>>> from steadycover.least import essentials, least_covers
>>> from steadycover.tables import Table
>>> demand = Demand(Table("11011001"))
>>> [essentials(demand), least_covers(demand)]
[['-00', '-11'], [['-00', '-11', '0-1'], ['-00', '-11', '00-']]]

>>> from steadycover.growth import Demand
>>> from steadycover.least import least_covers, least_size
>>> from steadycover.tables import Table
>>> demand = Demand(Table("11011001"), [("000", "001")])
>>> [least_covers(demand), least_size(demand)]
[[['-00', '-11', '00-']], (3, 6)]

>>> from steadycover.growth import Demand
>>> from steadycover.tables import Table
>>> from steadycover.together import conflicts, greatest
>>> rows = [("011", "000"), ("101", "000"), ("011", "001")]
>>> demand = Demand(Table("01010100"), rows)
>>> [conflicts(demand), greatest(demand)]
[[(0, 1), (1, 2)], [(0, 2), (1,)]]

>>> from steadycover.words import Word
>>> [str(Word("010") | Word("10")), str(Word("01") & Word("10")), str(~Word("101"))]
['1010', '010', '010']

>>> from steadycover.trees import longest_of, settled, word_of_play
>>> tree = ("or", (("in", 0), ("not", ("in", 0))))
>>> change = ("0", "1")
>>> [longest_of(change, tree), settled("-", tree), word_of_play(change, tree, ((0, 1), ((), ())))]
['101', '-', '1']

>>> from steadycover.trees import word_of_play
>>> word_of_play(("0", "1"), ("or", (("in", 0), ("not", ("in", 0)))), ((0, 0), ((), ())))
raises InvalidPlay(())

>>> from steadycover.trees import tree_of
>>> tree_of(2, ["11", "0-"])
('or', (('and', (('in', 0), ('in', 1))), ('not', ('in', 0))))

>>> from steadycover.reshape import shared
>>> from steadycover.trees import longest_of
>>> part = ("and", (("in", 0), ("not", ("in", 1))))
>>> tree = ("or", (part, part))
>>> change = ("00", "11")
>>> [longest_of(change, tree), longest_of(change, shared(tree, ()))]
['01010', '010']

>>> from steadycover.reshape import flattened
>>> flattened(("or", (("or", (("in", 0), ("one",))), ("and", (("in", 1),)))))
('or', (('in', 0), ('one',), ('in', 1)))

>>> from steadycover.reshape import turned_in
>>> turned_in(("not", ("and", (("in", 0), ("not", ("one",))))))
('or', (('not', ('in', 0)), ('one',)))

>>> from steadycover.texts import read_tree
>>> read_tree("|(&(x0,!x2),1)")
('or', (('and', (('in', 0), ('not', ('in', 2)))), ('one',)))

>>> from steadycover.texts import read_tree
>>> read_tree("&(x0")
raises InvalidText(4)
'''


def told(error):
    """An error as the document writes it."""
    return f"raises {type(error).__name__}({', '.join(repr(worth) for worth in vars(error).values())})"


class ExamplesTest(unittest.TestCase):
    def test_worked_examples(self):
        blocks = EXAMPLES.strip().split("\n\n")
        for block in blocks:
            *lines, expected = block.split("\n")
            *before, last = [line.removeprefix(">>> ") for line in lines]
            names = {}
            exec("\n".join(before), names)
            try:
                found = repr(eval(last, names))
            except errors.CoverError as error:
                found = told(error)
            self.assertEqual(found, expected, block)

    def test_readme(self):
        # A fence would be taken for the end of what an example shows.
        text = README.read_text(encoding="utf-8").replace("```", "")
        examples = doctest.DocTestParser().get_doctest(text, {}, "README.md", str(README), 0)
        failed, tried = doctest.DocTestRunner().run(examples)
        self.assertEqual(failed, 0)
        self.assertGreater(tried, 20)


if __name__ == "__main__":
    unittest.main()

"""Words: how a signal turns, and how gates combine signals with independent delays."""

from steadycover.cubes import POINT_SIGNS, has_only
from steadycover.errors import InvalidWord, LimitExceeded

MOST_SIGNS = 1000


def _is_word(thing):
    if not isinstance(thing, str) or not 1 <= len(thing) <= MOST_SIGNS or not has_only(thing, POINT_SIGNS):
        return False
    return all([a != b for a, b in zip(thing, thing[1:])])


def exchanged(text):
    """The text with its signs "0" and "1" exchanged, and its other signs as they are."""
    return text.translate({48: "1", 49: "0"})


class Word:
    """A string of signs "0" and "1" in which neighbours differ."""

    def __init__(self, text):
        if not _is_word(text):
            raise InvalidWord()
        self.text = text
        self.zeros = text.count("0")
        self.ones = text.count("1")

    def __or__(self, other):
        texts = (self.text, other.text)
        if "1" in texts:
            return Word("1")
        first = "1" if any([text.startswith("1") for text in texts]) else ""
        last = "1" if any([text.endswith("1") for text in texts]) else ""
        return _checked_word(first + "0" + "10" * (self.zeros + other.zeros - 2) + last)

    def __and__(self, other):
        return ~(~self | ~other)

    def __invert__(self):
        return Word(exchanged(self.text))

    def __eq__(self, other):
        return isinstance(other, Word) and self.text == other.text

    def __len__(self):
        return len(self.text)

    def __str__(self):
        return str(self.text)

    def cuts(self):
        """All words with the same first and last sign and at most as many signs, short ones first."""
        # A part from the first sign on ends with the last sign if it is shorter by an even number.
        shortest = 2 - len(self.text) % 2
        return [Word(self.text[:length]) for length in range(shortest, len(self.text) + 1, 2)]


def _checked_word(text):
    if len(text) > MOST_SIGNS:
        raise LimitExceeded(MOST_SIGNS)
    return Word(text)

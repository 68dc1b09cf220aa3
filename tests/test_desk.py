"""The desk: points [95] to [100] and the interface under steadycover/desk.py."""

import inspect
import unittest
from random import Random
from unittest import mock

from steadycover import desk as desk_module
from steadycover import least
from steadycover.covers import covered, misfit, why
from steadycover.desk import Desk
from steadycover.errors import (
    CoverError, InvalidChange, InvalidCover, InvalidCube, InvalidName, InvalidPoint, LimitExceeded, NothingLeft,
    UnknownName,
)
from steadycover.growth import Demand, barred
from steadycover.least import is_cover_for, least_covers
from steadycover.tables import Table
from tests.definitions import EXAMPLE, defined_why, is_defined_cover, many_primes, unplain_of
from tests.samples import (
    STRANGE_STRINGS, cube_strings, no_changes, no_covers, no_cubes, no_points, no_strings, plain_of, point_strings,
    size,
)

TABLES = ("01", "0111", "01010100", "01010011", "0-1-01-1", "0111111111111110")
NAMES = ("a", "z", "ab", "b", "aa", "abcdefgh", "zzzzzzzz", "hello", "x", "y", "q")
NO_NAMES = (
    "", "A", "aB", "abcdefghi", "a" * 100, "a1", "1", "a ", " a", "a\n", "\n", "-", "_", "a_b", "\u00e4", "\u0430",
    "a\x00",
    "\u1d43", "\ufb01", "Z", "a-b", "\u017f",
)


def state_of(desk):
    """All that a desk tells without changing it."""
    return {name: desk[name] for name in desk.names()}, desk.cover


def history_of(desk):
    """What undoing all and doing all again shows; the desk holds the same behind it."""
    back, forth = [state_of(desk)], [state_of(desk)]
    undone = done = 0
    while can(desk.undo):
        undone += 1
        back.append(state_of(desk))
    for _ in range(undone):
        desk.redo()
    while can(desk.redo):
        done += 1
        forth.append(state_of(desk))
    for _ in range(done):
        desk.undo()
    return back, forth


def can(call):
    try:
        call()
    except NothingLeft:
        return False
    return True


class Model:
    """What [96] to [99] say of a desk, with whole copies of all states."""

    def __init__(self, text):
        self.text = text
        self.names, self.cover = {}, None
        self.past, self.undone = [], []

    def told(self):
        return dict(self.names), None if self.cover is None else list(self.cover)

    def hold(self, names, cover):
        self.past.append(self.told())
        self.undone = []
        self.names, self.cover = names, cover

    def put(self, name, change):
        if not (isinstance(name, str) and 1 <= len(name) <= 8 and all("a" <= sign <= "z" for sign in name)):
            raise InvalidName(name)
        if change not in plain_of(self.text):
            raise InvalidChange(-1)
        if name not in self.names and len(self.names) == 8:
            raise LimitExceeded(8)
        self.hold({**self.names, name: change}, self.cover)

    def drop(self, name):
        if name not in self.names:
            raise UnknownName(name)
        self.hold({known: change for known, change in self.names.items() if known != name}, self.cover)

    def set_cover(self, value):
        if value is not None:
            if not isinstance(value, (list, tuple)) or len(value) > 40:
                raise InvalidCover(-1)
            for at, cube in enumerate(value):
                if cube not in cube_strings(size(self.text)):
                    raise InvalidCover(at)
        self.hold(dict(self.names), None if value is None else list(value))

    def add(self, cube):
        if cube not in cube_strings(size(self.text)):
            raise InvalidCube(0)
        if self.cover is not None and len(self.cover) == 40:
            raise LimitExceeded(40)
        self.hold(dict(self.names), [*(self.cover or []), cube])

    def remove(self, cube):
        if cube not in cube_strings(size(self.text)):
            raise InvalidCube(0)
        if cube not in (self.cover or []):
            raise NothingLeft("product")
        left = list(self.cover)
        left.remove(cube)
        self.hold(dict(self.names), left)

    def mend(self):
        covers = least_covers(Demand(Table(self.text), [self.names[name] for name in sorted(self.names)]))
        if not covers:
            raise NothingLeft("cover")
        self.hold(dict(self.names), covers[0])

    def undo(self):
        if not self.past:
            raise NothingLeft("undo")
        self.undone.append(self.told())
        self.names, self.cover = self.past.pop()

    def redo(self):
        if not self.undone:
            raise NothingLeft("redo")
        self.past.append(self.told())
        self.names, self.cover = self.undone.pop()

    def attempt(self, deeds):
        before = self.names, self.cover, list(self.past), list(self.undone)
        try:
            for deed in deeds:
                self.do(deed)
        except CoverError:
            self.names, self.cover, self.past, self.undone = before
            raise

    def do(self, deed):
        calls = {
            "put": self.put, "drop": self.drop, "cover": self.set_cover, "add": self.add, "remove": self.remove,
            "mend": self.mend, "undo": self.undo, "redo": self.redo, "attempt": self.attempt,
        }
        calls[deed[0]](*deed[1:])


def do(desk, deed):
    """The deed, as a caller does it."""
    if deed[0] == "put":
        desk[deed[1]] = deed[2]
    elif deed[0] == "cover":
        desk.cover = deed[1]
    elif deed[0] == "add":
        same = desk
        desk += deed[1]
        assert desk is same
    elif deed[0] == "remove":
        same = desk
        desk -= deed[1]
        assert desk is same
    else:
        assert getattr(desk, deed[0])(*deed[1:]) is None


def outcome(call):
    try:
        call()
    except CoverError as error:
        return type(error), vars(error)
    return None


def chosen_deed(random, text, deep=1):
    n = size(text)
    kinds = ["put"] * 5 + ["drop", "cover", "add", "add", "remove", "mend", "undo", "undo", "undo", "redo", "redo"]
    kind = random.choice(kinds + ["attempt"] * (deep < 4))
    cubes = cube_strings(n)
    if kind == "put":
        changes = [*plain_of(text)] * 3 + [*unplain_of(text), None, ("x", "y"), list(plain_of(text)[0])]
        return (kind, random.choice([*NAMES, *NAMES, random.choice(NO_NAMES)]), random.choice(changes))
    if kind == "drop":
        return (kind, random.choice([*NAMES, "unknown", ""]))
    if kind == "cover":
        some = [random.choice(cubes) for _ in range(random.choice((0, 1, 2, 3, 38, 39, 40)))]
        return (kind, random.choice([some, tuple(some), None, [*some[:39], "x"], some * 15, "cover"]))
    if kind in ("add", "remove"):
        return (kind, random.choice([*cubes[:5], *cubes[:5], *cubes, "x", None]))
    if kind == "attempt":
        return (kind, [chosen_deed(random, text, deep + 1) for _ in range(random.choice((0, 1, 1, 2, 3)))])
    return (kind,)


class ModelTest(unittest.TestCase):
    def compare(self, desk, model):
        names, cover = model.told()
        self.assertEqual(state_of(desk), (names, cover))
        self.assertEqual(desk.names(), sorted(names))
        self.assertEqual(list(desk.rows()), sorted(names.items()))
        self.assertEqual(len(desk), len(names))

    def test_many_deeds_one_after_the_other(self):
        seen = {}
        for seed in range(120):
            random = Random(seed)
            text = TABLES[seed % len(TABLES)]
            desk, model = Desk(Table(text)), Model(text)
            for _ in range(60):
                deed = chosen_deed(random, text)
                found, expected = outcome(lambda: do(desk, deed)), outcome(lambda: model.do(deed))
                self.assertEqual(found, expected, (seed, deed))
                self.compare(desk, model)
                key = (deed[0], None if found is None else found[0])
                seen[key] = seen.get(key, 0) + 1
            self.check_history(desk, model)
        self.assertGreater(len(seen), 20)
        for kind, error in (
            ("put", InvalidName), ("put", InvalidChange), ("put", LimitExceeded), ("drop", UnknownName),
            ("cover", InvalidCover),
            ("add", InvalidCube), ("add", LimitExceeded), ("remove", InvalidCube), ("remove", NothingLeft),
            ("mend", NothingLeft),
            ("undo", NothingLeft), ("redo", NothingLeft), ("attempt", InvalidChange), ("attempt", None),
            ("mend", None),
        ):
            self.assertIn((kind, error), seen)

    def check_history(self, desk, model):
        while model.past:
            model.undo()
            desk.undo()
            self.compare(desk, model)
        self.assertFalse(can(desk.undo))
        while model.undone:
            model.redo()
            desk.redo()
            self.compare(desk, model)
        self.assertFalse(can(desk.redo))


class NamesTest(unittest.TestCase):
    def refused(self, kind, worth, call):
        with self.assertRaises(kind) as caught:
            call()
        self.assertEqual(list(vars(caught.exception).values()), [worth])
        return caught.exception

    def test_a_new_desk(self):
        for text in TABLES:
            desk = Desk(table=Table(text))
            self.assertEqual((len(desk), desk.names(), list(desk.rows()), desk.cover), (0, [], [], None))
            self.assertEqual(desk.demand(), Demand(Table(text)))
            self.assertIs("a" in desk, False)
            self.assertIs(desk.is_sound(), False)
            self.refused(NothingLeft, "undo", desk.undo)
            self.refused(NothingLeft, "redo", desk.redo)

    def put(self, desk, name, change):
        desk[name] = change

    def test_put_and_get(self):
        for text in TABLES:
            desk, plain = Desk(Table(text)), plain_of(text)
            for at, name in enumerate(NAMES[:8]):
                desk[name] = plain[at % len(plain)]
                self.assertEqual(desk[name], plain[at % len(plain)])
                self.assertIs(name in desk, True)
                self.assertIs(name not in desk, False)
                self.assertEqual(len(desk), at + 1)
                self.assertEqual(desk.names(), sorted(NAMES[:at + 1]))
            desk[NAMES[3]] = plain[-1]
            self.assertEqual((desk[NAMES[3]], len(desk)), (plain[-1], 8))
            rows = [(name, desk[name]) for name in sorted(NAMES[:8])]
            self.assertEqual(list(desk.rows()), rows)
            self.assertEqual(desk.demand(), Demand(Table(text), [change for _, change in rows]))

    def test_eight_and_nine_names(self):
        desk, change = Desk(Table("01")), ("0", "1")
        for name in NAMES[:8]:
            desk[name] = change
        before = state_of(desk)
        self.refused(LimitExceeded, 8, lambda: self.put(desk, NAMES[8], change))
        self.assertEqual(state_of(desk), before)
        desk[NAMES[0]] = ("1", "0")
        self.refused(LimitExceeded, 8, lambda: self.put(desk, NAMES[8], change))
        desk.drop(NAMES[0])
        desk[NAMES[8]] = change
        self.assertEqual(desk.names(), sorted(NAMES[1:9]))
        self.refused(LimitExceeded, 8, lambda: self.put(desk, NAMES[0], change))

    def test_names(self):
        for name in NO_NAMES:
            desk = Desk(Table("01"))
            error = self.refused(InvalidName, name, lambda: self.put(desk, name, ("0", "1")))
            self.assertEqual(error.name, name)
            self.assertEqual(len(desk), 0)
            self.assertIs(name in desk, False)
        for letter in "abcdefghijklmnopqrstuvwxyz":
            for length in range(1, 10):
                desk = Desk(Table("01"))
                if length <= 8:
                    desk[letter * length] = ("0", "1")
                    self.assertEqual(desk.names(), [letter * length])
                else:
                    self.refused(InvalidName, letter * length, lambda: self.put(desk, letter * length, ("0", "1")))
        for thing in no_strings():
            desk = Desk(Table("01"))
            with self.assertRaises(InvalidName) as caught:
                desk[thing] = ("0", "1")
            self.assertIs(caught.exception.name, thing)

    def test_changes(self):
        for text in TABLES[:5]:
            desk = Desk(Table(text))
            for thing in [*no_changes(size(text)), *unplain_of(text)]:
                self.refused(InvalidChange, -1, lambda: self.put(desk, "a", thing))
            self.assertEqual(state_of(desk), ({}, None))

    def test_the_order_of_the_errors(self):
        desk = Desk(Table("01"))
        for name in NAMES[:8]:
            desk[name] = ("0", "1")
        for wrong in ("", "A", 1, None):
            for change in (None, ("0", "0"), ("0", "1")):
                self.refused(InvalidName, wrong, lambda: self.put(desk, wrong, change))
        self.refused(InvalidChange, -1, lambda: self.put(desk, NAMES[9], ("0", "0")))
        self.refused(InvalidChange, -1, lambda: self.put(desk, NAMES[0], ("0", "0")))
        self.refused(LimitExceeded, 8, lambda: self.put(desk, NAMES[9], ("0", "1")))

    def test_unknown_names(self):
        desk = Desk(Table("01"))
        desk["a"] = ("0", "1")
        for name in [*NAMES[1:], *NO_NAMES, *STRANGE_STRINGS, "unknown"]:
            for call in (lambda: desk[name], lambda: desk.drop(name)):
                self.assertEqual(self.refused(UnknownName, name, call).name, name)
            self.assertIs(name in desk, False)
        self.assertIsNone(desk.drop(name="a"))
        self.refused(UnknownName, "a", lambda: desk["a"])
        self.refused(UnknownName, "a", lambda: desk.drop("a"))
        self.assertEqual((len(desk), "a" in desk), (0, False))

    def test_two_names_for_one_change(self):
        desk = Desk(Table("01"))
        desk["b"] = desk["a"] = ("0", "1")
        self.assertEqual(desk.demand().changes, (("0", "1"), ("0", "1")))
        desk.drop("a")
        self.assertEqual(list(desk.rows()), [("b", ("0", "1"))])

    def test_rows_is_a_generator_of_tuples(self):
        desk = Desk(Table("0111"))
        rows = desk.rows()
        self.assertTrue(inspect.isgenerator(rows))
        desk["b"] = ("00", "01")
        desk["a"] = ("00", "10")
        # As they stand when the iteration begins.
        self.assertEqual(list(rows), [("a", ("00", "10")), ("b", ("00", "01"))])
        self.assertEqual(list(rows), [])
        self.assertEqual({type(row) for row in desk.rows()}, {tuple})

    def test_answers_are_new(self):
        desk = Desk(Table("01"))
        desk["a"] = ("0", "1")
        desk.names().append("b")
        self.assertEqual(desk.names(), ["a"])
        self.assertIsInstance(desk.demand(), Demand)


class CoverTest(unittest.TestCase):
    refused = NamesTest.refused

    def test_set_and_get(self):
        for text in TABLES:
            desk, cubes = Desk(Table(text)), cube_strings(size(text))
            for cover in ([], cubes[:1], cubes[:3] * 2, (cubes * 14)[:40], None, tuple(cubes[-2:]), ()):
                desk.cover = cover
                self.assertEqual(desk.cover, None if cover is None else list(cover))
                self.assertIs(type(desk.cover), type(None) if cover is None else list)

    def test_lists_of_the_caller(self):
        desk, mine = Desk(Table("0111")), ["1-", "-1"]
        desk.cover = mine
        mine.append("x")
        mine[0] = "00"
        self.assertEqual(desk.cover, ["1-", "-1"])
        told = desk.cover
        told.clear()
        self.assertEqual(desk.cover, ["1-", "-1"])
        desk += "11"
        self.assertEqual((mine, told), (["00", "-1", "x"], []))
        self.assertIsNot(desk.cover, desk.cover)

    def put(self, desk, value):
        desk.cover = value

    def test_wrong_covers(self):
        for text in TABLES[:4]:
            desk = Desk(Table(text))
            desk.cover = ["-" * size(text)]
            for thing, at in no_covers(size(text)):
                if thing is not None:
                    self.refused(InvalidCover, at, lambda: self.put(desk, thing))
            self.assertEqual(desk.cover, ["-" * size(text)])

    def test_plus(self):
        for text in TABLES:
            cubes = (cube_strings(size(text)) * 14)[:41]
            desk = same = Desk(Table(text))
            for at, cube in enumerate(cubes[:40]):
                desk += cube
                self.assertIs(desk, same)
                self.assertEqual(desk.cover, cubes[:at + 1])
            for cube in cubes[-2:]:
                with self.assertRaises(LimitExceeded) as caught:
                    desk += cube
                self.assertEqual(caught.exception.limit, 40)
            for thing in no_cubes(size(text)):
                with self.assertRaises(InvalidCube) as caught:
                    desk += thing
                self.assertEqual(caught.exception.at, 0)
            self.assertEqual(desk.cover, cubes[:40])
            desk.undo()
            self.assertEqual(desk.cover, cubes[:39])
        desk = Desk(Table("01"))
        for thing in no_cubes(1):
            with self.assertRaises(InvalidCube):
                desk += thing
        self.assertIsNone(desk.cover)
        desk.cover = []
        desk += "1"
        self.assertEqual(desk.cover, ["1"])

    def test_minus(self):
        desk = same = Desk(Table("0111"))
        desk.cover = ["1-", "-1", "1-", "11"]
        desk -= "1-"
        self.assertIs(desk, same)
        self.assertEqual(desk.cover, ["-1", "1-", "11"])
        for cube in ("00", "--", "01"):
            with self.assertRaises(NothingLeft) as caught:
                desk -= cube
            self.assertEqual(caught.exception.word, "product")
        for thing in no_cubes(2):
            with self.assertRaises(InvalidCube) as caught:
                desk -= thing
            self.assertEqual(caught.exception.at, 0)
        for cube, left in (("11", ["-1", "1-"]), ("-1", ["1-"]), ("1-", [])):
            desk -= cube
            self.assertEqual(desk.cover, left)
        with self.assertRaises(NothingLeft):
            desk -= "1-"
        self.assertEqual(desk.cover, [])
        desk.cover = None
        for cube, error in (("1-", NothingLeft), ("1", InvalidCube), (None, InvalidCube)):
            with self.assertRaises(error):
                desk -= cube
        self.assertIsNone(desk.cover)

    def test_mend(self):
        for text in TABLES:
            desk = Desk(Table(text))
            for name, change in zip(NAMES, plain_of(text)[::3][:6]):
                desk[name] = change
                if barred(desk.demand()) is None:
                    self.assertIsNone(desk.mend())
                    self.assertEqual(desk.cover, least_covers(desk.demand())[0])
                    self.assertIs(desk.is_sound(), True)
        desk = Desk(Table("11011001"))
        desk.mend()
        self.assertEqual(desk.cover, ["-00", "-11", "0-1"])
        desk = Desk(Table("0-0-"))
        desk.mend()
        self.assertEqual(desk.cover, [])

    def test_mend_with_a_barred_demand(self):
        desk = Desk(Table(EXAMPLE[0]))
        desk["a"], desk["b"] = EXAMPLE[1]
        for cover in (None, ["0-1"], []):
            desk.cover = cover
            self.refused(NothingLeft, "cover", desk.mend)
            self.assertEqual(desk.cover, cover)
        desk.drop("b")
        desk.mend()
        self.assertIs(desk.is_sound(), True)

    def test_mend_with_more_than_fourteen_good_primes(self):
        # No such demand is known, so an off point joins the good primes here.
        desk = Desk(Table("11011001"))
        desk.cover = ["---"]
        for count in (14, 15):
            with mock.patch.object(least, "good_primes", lambda demand: many_primes(demand, count)):
                if count == 14:
                    desk.mend()
                    self.assertEqual(desk.cover, ["-00", "-11", "0-1"])
                else:
                    self.refused(LimitExceeded, 14, desk.mend)
        self.assertEqual(desk.cover, ["-00", "-11", "0-1"])
        desk.undo()
        self.assertEqual(desk.cover, ["---"])

    def test_call(self):
        for text in TABLES:
            desk, cubes = Desk(Table(text)), cube_strings(size(text))
            for cover in ([], cubes[1:2], cubes[3:9:2], tuple(cubes[::4]), cubes[:1]):
                desk.cover = cover
                for point in point_strings(size(text)):
                    self.assertEqual(desk(point), "1" if covered(point, cover) else "0")
            for cover in (None, ["-" * size(text)]):
                desk.cover = cover
                for thing in no_points(size(text)):
                    self.refused(InvalidPoint, 0, lambda: desk(thing))
            desk.cover = None
            self.refused(NothingLeft, "cover", lambda: desk("0" * size(text)))
        self.assertEqual(desk_with("01", ["1"])(point="1"), "1")

    def test_faults_and_is_sound(self):
        seen = set()
        for text in TABLES:
            cubes, plain = cube_strings(size(text)), plain_of(text)
            for step in (1, 2, 3, 5):
                desk = Desk(Table(text))
                for name, change in zip(NAMES, plain[step - 1::step][:8]):
                    desk[name] = change
                self.refused(NothingLeft, "cover", desk.faults)
                self.assertIs(desk.is_sound(), False)
                best = least_covers(desk.demand())[:1]
                for cover in (*best, [], cubes[-1:], cubes[1::2], Table(text).primes(), Table(text).ons()):
                    desk.cover = cover[:40]
                    reasons = [(name, why(change, desk.cover)) for name, change in desk.rows()]
                    self.assertEqual(reasons, [(name, defined_why(change, desk.cover)) for name, change in desk.rows()])
                    faults = desk.faults()
                    self.assertIs(type(faults), list)
                    self.assertEqual(faults, [row for row in reasons if row[1] is not None])
                    sound = desk.is_sound()
                    self.assertIs(sound, is_cover_for(desk.demand(), desk.cover))
                    self.assertIs(sound, is_defined_cover((text, desk.demand().changes), desk.cover))
                    self.assertIs(sound, misfit(Table(text), desk.cover) is None and faults == [])
                    seen.add((sound, faults == []))
        self.assertEqual(seen, {(True, True), (False, True), (False, False)})


def desk_with(text, cover, **changes):
    desk = Desk(Table(text))
    desk.cover = cover
    for name, change in changes.items():
        desk[name] = change
    return desk


DEEDS = (
    ("put", "a", ("00", "01")), ("put", "b", ("01", "11")), ("put", "a", ("00", "11")), ("put", "a", ("00", "11")),
    ("drop", "b"), ("cover", ["1-"]), ("cover", ["1-"]), ("cover", None), ("cover", None), ("add", "-1"),
    ("add", "1-"),
    ("remove", "-1"), ("remove", "1-"), ("mend",), ("mend",), ("cover", ()), ("drop", "a"),
)
# Each raises an error if it is done behind all of DEEDS.
REFUSED = (
    (("put", "A", ("00", "01")), InvalidName, "A"), (("put", None, None), InvalidName, None),
    (("put", "a", ("00", "00")), InvalidChange, -1), (("drop", "a"), UnknownName, "a"),
    (("cover", "x"), InvalidCover, -1),
    (("cover", ["1-", "x"]), InvalidCover, 1), (("add", "x"), InvalidCube, 0), (("remove", "1"), InvalidCube, 0),
    (("remove", "01"), NothingLeft, "product"), (("redo",), NothingLeft, "redo"),
)


class HistoryTest(unittest.TestCase):
    refused = NamesTest.refused

    def test_each_deed_undone_and_done_again(self):
        desk = Desk(Table("0111"))
        states = [state_of(desk)]
        for deed in DEEDS:
            do(desk, deed)
            states.append(state_of(desk))
        for _ in range(3):
            for state in states[-2::-1]:
                self.assertIsNone(desk.undo())
                self.assertEqual(state_of(desk), state)
            self.refused(NothingLeft, "undo", desk.undo)
            for state in states[1:]:
                self.assertIsNone(desk.redo())
                self.assertEqual(state_of(desk), state)
            self.refused(NothingLeft, "redo", desk.redo)

    def test_a_new_deed_takes_away_the_undone_ones(self):
        for deed in DEEDS[:1] + DEEDS[5:11] + (("mend",), ("put", "a", ("00", "01"))):
            desk = desk_with("0111", ["-1"], a=("00", "01"))
            desk["a"] = ("00", "10")
            desk += "1-"
            desk.undo()
            desk.undo()
            do(desk, deed)
            held = state_of(desk)
            self.refused(NothingLeft, "redo", desk.redo)
            self.assertEqual(state_of(desk), held)
            desk.undo()
            self.assertEqual(state_of(desk), ({"a": ("00", "01")}, ["-1"]))

    def test_errors_leave_the_undone_deeds(self):
        for deed, error, worth in REFUSED[:-1]:
            desk = desk_with("0111", ["-1"], b=("00", "01"))
            desk.cover = ["1-"]
            desk.drop("b")
            desk.undo()
            desk.undo()
            before, history = state_of(desk), history_of(desk)
            self.refused(error, worth, lambda: do(desk, deed))
            self.assertEqual(state_of(desk), before)
            self.assertEqual(history_of(desk), history)
            self.assertEqual(len(history[1]), 3)
        desk = desk_with("0111", ["-1"])
        desk.undo()
        history = history_of(desk)
        self.refused(NothingLeft, "undo", desk.undo)
        self.refused(NothingLeft, "cover", desk.faults)
        self.refused(NothingLeft, "cover", lambda: desk("00"))
        self.refused(UnknownName, "a", lambda: desk["a"])
        self.assertEqual(history_of(desk), history)

    def test_asking_is_no_deed(self):
        desk = desk_with("0111", ["-1"], a=("00", "01"))
        desk.undo()
        history = history_of(desk)
        desk.names(), list(desk.rows()), desk.demand(), desk.cover, len(desk), "a" in desk, desk("11"), desk.faults()
        desk.is_sound(), desk.twin(), desk.attempt([])
        self.assertEqual(history_of(desk), history)

    def test_twin(self):
        desk = desk_with("0111", ["-1"], a=("00", "01"), b=("11", "00"))
        desk.undo()
        twin = desk.twin()
        self.assertIs(type(twin), Desk)
        self.assertIsNot(twin, desk)
        self.assertEqual(state_of(twin), state_of(desk))
        self.assertEqual(twin.demand(), desk.demand())
        self.refused(NothingLeft, "undo", twin.undo)
        self.refused(NothingLeft, "redo", twin.redo)
        before, history = state_of(twin), history_of(desk)
        twin["c"] = ("00", "10")
        twin += "1-"
        twin.drop("a")
        self.assertEqual(state_of(desk), before)
        self.assertEqual(history_of(desk), history)
        held, history = state_of(twin), history_of(twin)
        desk.redo()
        desk.cover = None
        desk.drop("a")
        self.assertEqual(state_of(twin), held)
        self.assertEqual(history_of(twin), history)
        self.assertEqual(len(history[0]), 4)
        for _ in range(3):
            twin.undo()
        self.assertEqual(state_of(twin), before)
        self.assertIsNone(Desk(Table("01")).twin().cover)


class AttemptTest(unittest.TestCase):
    refused = NamesTest.refused

    def test_the_deeds_in_order(self):
        one, other = Desk(Table("0111")), Desk(Table("0111"))
        for deed in DEEDS:
            do(one, deed)
        self.assertIsNone(other.attempt(DEEDS))
        self.assertEqual(state_of(one), state_of(other))
        self.assertEqual(history_of(one), history_of(other))
        third = Desk(Table("0111"))
        third.attempt(deeds=[("attempt", list(DEEDS[:4])), *DEEDS[4:9], ("attempt", (("attempt", DEEDS[9:]),))])
        self.assertEqual(history_of(one), history_of(third))

    def test_a_refused_deed_at_each_place(self):
        for deed, error, worth in REFUSED:
            for at in (*range(0, len(DEEDS), 4), len(DEEDS)):
                # What is refused behind all deeds may be done earlier; then a deed that is always refused stands there.
                bad, kind, told = (deed, error, worth) if at == len(DEEDS) else (("put", "A", None), InvalidName, "A")
                for deeds in (
                    [*DEEDS[:at], bad, *DEEDS[at:]], (*DEEDS[:at], ("attempt", (bad,))),
                    [("attempt", [*DEEDS[:at], bad]), *DEEDS],
                    [("attempt", [("attempt", [("attempt", (*DEEDS[:at], bad))])])],
                ):
                    desk = desk_with("0111", ["--"], z=("01", "11"))
                    desk.undo()
                    before, history = state_of(desk), history_of(desk)
                    self.refused(kind, told, lambda: desk.attempt(deeds))
                    self.assertEqual(state_of(desk), before)
                    self.assertEqual(history_of(desk), history)
                    self.assertEqual((len(history[0]), len(history[1])), (2, 2))

    def test_no_deeds(self):
        desk = desk_with("0111", ["--"])
        desk.undo()
        history = history_of(desk)
        for deeds in ([], (), [("attempt", ())], [("attempt", [("attempt", [("attempt", [])])])]):
            self.assertIsNone(desk.attempt(deeds))
            self.assertEqual(history_of(desk), history)

    def test_undo_and_redo_within(self):
        desk = desk_with("0111", ["--"])
        desk.cover = ["1-"]
        desk.attempt([("undo",), ("redo",), ("undo",), ("undo",)])
        self.assertEqual(state_of(desk), ({}, None))
        desk.attempt((("redo",), ("redo",)))
        self.assertEqual(desk.cover, ["1-"])
        desk.attempt([("undo",), ("add", "11")])
        self.assertEqual(desk.cover, ["--", "11"])
        self.refused(NothingLeft, "redo", desk.redo)
        # More deeds are undone than the attempt itself has done, and then there is none.
        before, history = state_of(desk), history_of(desk)
        self.refused(NothingLeft, "undo", lambda: desk.attempt([("add", "00"), *[("undo",)] * 4]))
        self.assertEqual(state_of(desk), before)
        self.assertEqual(history_of(desk), history)

    def test_an_attempt_is_no_deed_itself(self):
        desk = Desk(Table("0111"))
        desk.attempt([("add", "1-"), ("attempt", [("add", "-1"), ("put", "a", ("00", "11"))])])
        desk.undo()
        self.assertEqual(state_of(desk), ({}, ["1-", "-1"]))
        desk.undo()
        self.assertEqual(state_of(desk), ({}, ["1-"]))
        desk.undo()
        self.assertEqual(state_of(desk), ({}, None))
        self.refused(NothingLeft, "undo", desk.undo)

    def test_sixty_deeds_and_four_deep(self):
        desk = Desk(Table("01"))
        deeds = [("add", "1")] * 30 + [("remove", "1")] * 29
        desk.attempt([*deeds, ("attempt", [("attempt", [("attempt", [("add", "0")] * 10)])])])
        self.assertEqual(desk.cover, ["1"] + ["0"] * 10)
        self.assertEqual(len(history_of(desk)[0]), 70)

    def test_lists_of_the_caller(self):
        desk = Desk(Table("0111"))
        cover = ["1-"]
        deeds = [("cover", cover), ("add", "-1")]
        desk.attempt(deeds)
        cover.append("x")
        deeds.clear()
        self.assertEqual(desk.cover, ["1-", "-1"])
        desk.undo()
        self.assertEqual(desk.cover, ["1-"])

    def test_mend_in_an_attempt(self):
        desk = Desk(Table(EXAMPLE[0]))
        deeds = [("put", "a", EXAMPLE[1][0]), ("mend",)]
        desk.attempt(deeds)
        self.assertEqual(desk.cover, least_covers(Demand(Table(EXAMPLE[0]), EXAMPLE[1][:1]))[0])
        before, history = state_of(desk), history_of(desk)
        self.refused(NothingLeft, "cover", lambda: desk.attempt([("put", "b", EXAMPLE[1][1]), ("mend",)]))
        self.assertEqual((state_of(desk), history_of(desk)), (before, history))


class InterfaceTest(unittest.TestCase):
    def test_all_is_defined_in_this_class(self):
        self.assertEqual(Desk.__module__, desk_module.__name__)
        for name in (
            "__init__", "__setitem__", "__getitem__", "__contains__", "__len__", "drop", "names", "rows", "demand",
            "cover",
            "__iadd__", "__isub__", "mend", "__call__", "faults", "is_sound", "undo", "redo", "twin", "attempt",
        ):
            self.assertIn(name, vars(Desk))
        self.assertIsInstance(vars(Desk)["cover"], property)

    def test_nothing_changes_the_table(self):
        table = Table("0111")
        desk = Desk(table)
        desk.attempt(DEEDS)
        desk.twin().attempt(DEEDS)
        self.assertEqual(vars(table), vars(Table("0111")))


if __name__ == "__main__":
    unittest.main()

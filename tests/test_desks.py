"""The desk: its changes, what takes them back, and trials."""

import random
import unittest
from fractions import Fraction

from backwalks.desks import Desk
from backwalks.errors import (InvalidChances, InvalidFraction, InvalidGlasses, InvalidTold, InvalidWalk, InvalidWeights,
                              NothingToUndo, NotOfThisKind, UnknownName, WalkError)
from backwalks.language import is_told
from backwalks.walks import is_walk
from backwalks.weights import is_weights
from tests.helpers import (ALONE, HALF, MORE, NIL, ODD_VALUES, ONE, THIRD, WHEEL, Odd, check_given, check_raises,
                           many_walks, nested, pair)
from tests.nets import BARS, LOOP, RING, TIE, TWO, many_weights
from tests.test_glasses import NO_GLASSES
from tests.test_language import BEDS, GARDEN, NO_NAMES, no_told
from tests.views import glasses_by_hand

WHEELS = ("walk", WHEEL, (0, 0, 1), ("a", "b", "c"))
NO_CHANCES = [(), (ONE,), (HALF, HALF, NIL), (HALF, THIRD), (ONE, ONE), (NIL, NIL), ((3, 2), (-1, 2)), ((2, 2), NIL),
              ((2, 4), HALF), [HALF, HALF], ([1, 2], HALF), (HALF, (True, 2)), ((True, 1), NIL), (HALF, None), (1, 0),
              (True, False), "hall", {HALF: HALF}, {0: HALF, 1: HALF}, (HALF, (1, -2)), (HALF, HALF, HALF),
              (Fraction(1, 2), Fraction(1, 2)), ((HALF, HALF),), (Odd(), Odd()), (nested(18), nested(18))]
NO_WEIGHT = [(-1, 1), (2, 2), (0, 2), (1, 0), (1, -1), (True, 1), (1, True), 0, 1, True, None, "1", (1,), (1, 1, 1), (),
             [1, 1], {1: 1}, {1}, Fraction(1), b"\x01\x01", ("1", "1"), ((1, 1),), Odd(), nested(20), -1]


class Other(Exception):
    """An error of none of Python's own kinds and none of the package's."""


def state(desk):
    return (desk.told, len(desk))


def drawn_table(source, kind, many, tables):
    return source.choice([table for table in tables[kind] if len(table) == many])


def some_desks():
    """Desks that tell walks and weights of 1 to 6 places."""
    source, found = random.Random(91), []
    for kind, tables in (("walk", many_walks()), ("weights", many_weights())):
        for table in source.sample(tables, 25):
            glasses = source.choice((None, glasses_by_hand(source, len(table))))
            found.append((kind, table, glasses, ("a", "b", "c", "d", "e", "f")[:len(table)]))
    return found


class DeskCase(unittest.TestCase):

    def check_kept(self, desk, error, kept, call):
        """Let a call raise, and the desk be as it was, whatever is undone."""
        before = state(desk)
        check_raises(self, error, kept, call)
        self.assertEqual(state(desk), before)


class DeskTest(DeskCase):

    def test_made(self):
        for told in some_desks():
            desk = Desk(told)
            self.assertEqual([desk.told, len(desk), bool(desk)], [told, 0, True])
            self.assertIs(type(len(desk)), int)
        self.assertEqual(Desk(told=GARDEN).told, GARDEN)
        for told in (GARDEN, BEDS):
            self.assertIs(Desk(told).told, told)

    def test_not_told(self):
        check_given(self, InvalidTold, (Desk, lambda value: Desk(told=value)), no_told() + ODD_VALUES)

    def test_truth_and_equality(self):
        desk, other = Desk(GARDEN), Desk(GARDEN)
        for one in (desk, other):
            self.assertIs(bool(one), True)
            one.look(None)
            self.assertIs(bool(one), True)
            self.assertIs(not one, False)
        self.assertIs(desk == desk, True)
        for one in (other, GARDEN, desk.told, None, 1, Odd()):
            self.assertIs(desk == one, False)
            self.assertIs(desk != one, True)
        self.assertIs(desk != desk, False)

    def test_read_alone(self):
        desk = Desk(GARDEN)
        for value in (BEDS, GARDEN, None):
            with self.assertRaises(AttributeError):
                desk.told = value
        with self.assertRaises(AttributeError):
            del desk.told
        self.assertEqual(state(desk), (GARDEN, 0))


class ChangesTest(DeskCase):

    def test_put(self):
        desk = Desk(GARDEN)
        self.assertIsNone(desk.put("hall", (NIL, ONE)))
        self.assertEqual(state(desk), (("walk", ((NIL, ONE), (THIRD, MORE)), (1, 0), ("hall", "yard")), 1))
        self.assertIsNone(desk.put(row=(ONE, NIL), name="yard"))
        self.assertEqual(state(desk), (("walk", ((NIL, ONE), (ONE, NIL)), (1, 0), ("hall", "yard")), 2))
        # what is there already is a change, too
        self.assertIsNone(desk.put("yard", (ONE, NIL)))
        self.assertEqual([desk.told[1], len(desk)], [((NIL, ONE), (ONE, NIL)), 3])
        alone = Desk(("walk", ALONE, None, ("a",)))
        self.assertEqual([alone.put("a", (ONE,)), len(alone), alone.told[1]], [None, 1, ALONE])

    def test_tie(self):
        desk = Desk(BEDS)
        self.assertIsNone(desk.tie("c", "a", HALF))
        self.assertEqual(state(desk), (("weights", ((NIL, ONE, HALF), (ONE, NIL, TWO), (HALF, TWO, ONE)), None,
                                        ("a", "b", "c")), 1))
        self.assertIsNone(desk.tie(number=NIL, other="b", name="a"))
        self.assertEqual([desk.told[1], len(desk)], [((NIL, NIL, HALF), (NIL, NIL, TWO), (HALF, TWO, ONE)), 2])
        self.assertIsNone(desk.tie("b", "b", (5, 1)))
        self.assertEqual([desk.told[1], len(desk)], [((NIL, NIL, HALF), (NIL, (5, 1), TWO), (HALF, TWO, ONE)), 3])
        self.assertIsNone(desk.tie("c", "c", NIL))
        self.assertIsNone(desk.tie("c", "c", NIL))
        self.assertEqual([desk.told[1], len(desk)], [((NIL, NIL, HALF), (NIL, (5, 1), TWO), (HALF, TWO, NIL)), 5])

    def test_look(self):
        for told in (GARDEN, WHEELS, BEDS):
            desk, many = Desk(told), len(told[1])
            for at, glasses in enumerate(((0,) * many, tuple(range(many)), None, None, (1,) * (many - 1) + (0,))):
                self.assertIsNone(desk.look(glasses))
                self.assertEqual(state(desk), (told[:2] + (glasses,) + told[3:], at + 1))
            self.assertIsNone(desk.look(glasses=None))
            self.assertEqual(state(desk), (told[:2] + (None,) + told[3:], 6))

    def test_wrong_rows(self):
        desk = Desk(GARDEN)
        for told in (0, 1):
            for name in ("hall", "yard"):
                for row in NO_CHANCES + [value for value in ODD_VALUES if value != (NIL, ONE)]:
                    self.check_kept(desk, InvalidChances, {"given": row}, lambda: desk.put(name, row))
                    self.check_kept(desk, InvalidChances, {"given": row}, lambda: desk.put(row=row, name=name))
            for row in (None, (NIL, ONE), (ONE, ONE)):
                for name in NO_NAMES + ["halls", "hal", "Hall", "hall ", "b"]:
                    self.check_kept(desk, UnknownName, {"line": None, "place": None}, lambda: desk.put(name, row))
            self.check_kept(desk, InvalidWalk, {"given": ((ONE, NIL), desk.told[1][1])},
                            lambda: desk.put("hall", (ONE, NIL)))
            self.check_kept(desk, InvalidWalk, {"given": (desk.told[1][0], (NIL, ONE))},
                            lambda: desk.put("yard", (NIL, ONE)))
            desk.put("hall", (THIRD, MORE))
        for name in ("a", "d", None, 0, ["a"]):
            for row in ((ONE, NIL, NIL), None):
                beds = Desk(BEDS)
                self.check_kept(beds, NotOfThisKind, {}, lambda: beds.put(name, row))

    def test_wrong_ties(self):
        desk = Desk(BEDS)
        for told in (0, 1):
            for number in NO_WEIGHT + ODD_VALUES:
                for name, other in (("a", "b"), ("c", "c")):
                    self.check_kept(desk, InvalidFraction, {"given": number}, lambda: desk.tie(name, other, number))
                    self.check_kept(desk, InvalidFraction, {"given": number},
                                    lambda: desk.tie(number=number, name=name, other=other))
            for number in (ONE, None):
                for name in NO_NAMES + ["d", "ab"]:
                    for call in (lambda: desk.tie(name, "a", number), lambda: desk.tie("a", name, number),
                                 lambda: desk.tie(name, name, number)):
                        self.check_kept(desk, UnknownName, {"line": None, "place": None}, call)
            wrong = ((NIL, NIL, NIL), (NIL, NIL, TWO), (NIL, TWO, desk.told[1][2][2]))
            self.check_kept(desk, InvalidWeights, {"given": wrong}, lambda: desk.tie("b", "a", NIL))
            desk.tie("c", "c", (7, 2))
        loop = Desk(("weights", LOOP, None, ("a",)))
        self.check_kept(loop, InvalidWeights, {"given": ((NIL,),)}, lambda: loop.tie("a", "a", NIL))
        for given in (("hall", "yard", ONE), ("a", "b", ONE), (None, None, None)):
            garden = Desk(GARDEN)
            self.check_kept(garden, NotOfThisKind, {}, lambda: garden.tie(*given))

    def test_wrong_glasses(self):
        for told in (WHEELS, BEDS):
            desk = Desk(told)
            for glasses in NO_GLASSES + [value for value in ODD_VALUES if value is not None and value != (0, 1, 2)]:
                self.check_kept(desk, InvalidGlasses, {"given": glasses}, lambda: desk.look(glasses))
                self.check_kept(desk, InvalidGlasses, {"given": glasses}, lambda: desk.look(glasses=glasses))

    def test_arguments_are_not_changed(self):
        desk, row, name = Desk(GARDEN), [HALF, HALF], ["hall"]
        with self.assertRaises(InvalidChances) as caught:
            desk.put("hall", row)
        self.assertIs(caught.exception.given, row)
        with self.assertRaises(UnknownName):
            desk.put(name, row)
        self.assertEqual([row, name], [[HALF, HALF], ["hall"]])


class UndoTest(DeskCase):

    def test_nothing_to_undo(self):
        for told in some_desks():
            desk = Desk(told)
            self.check_kept(desk, NothingToUndo, {}, desk.undo)
            desk.look(None)
            self.assertIsNone(desk.undo())
            self.assertEqual(state(desk), (told, 0))
            self.check_kept(desk, NothingToUndo, {}, desk.undo)

    def change(self, source, desk, tables):
        """Change the desk somehow, or try to; tell what is there by hand, None for an error."""
        kind, table, glasses, names = desk.told
        many, at = len(table), source.randrange(len(table))
        if source.random() < 0.3:
            glasses = source.choice((None, glasses, glasses_by_hand(source, many)))
            desk.look(glasses)
            return (kind, table, glasses, names)
        if kind == "walk":
            row = source.choice((table[at], drawn_table(source, kind, many, tables)[at]))
            told = table[:at] + (row,) + table[at + 1:]
            if not is_walk(told):
                self.check_kept(desk, InvalidWalk, {"given": told}, lambda: desk.put(names[at], row))
                return None
            desk.put(names[at], row)
        else:
            to, number = source.randrange(many), source.choice((NIL, ONE, pair(Fraction(source.randint(1, 9), 4))))
            rows = [list(row) for row in table]
            rows[at][to] = rows[to][at] = number
            told = tuple(tuple(row) for row in rows)
            if not is_weights(told):
                self.check_kept(desk, InvalidWeights, {"given": told}, lambda: desk.tie(names[at], names[to], number))
                return None
            desk.tie(names[at], names[to], number)
        return (kind, told, glasses, names)

    def test_all_changes_one_by_one(self):
        source = random.Random(92)
        tables = {"walk": many_walks(), "weights": many_weights()}
        for told in some_desks():
            desk, past = Desk(told), [told]
            for _ in range(30):
                if source.random() < 0.3:
                    if len(past) > 1:
                        past.pop()
                        self.assertIsNone(desk.undo())
                    else:
                        self.check_kept(desk, NothingToUndo, {}, desk.undo)
                else:
                    now = self.change(source, desk, tables)
                    past += [now] if now is not None else []
                self.assertEqual(state(desk), (past[-1], len(past) - 1))
                self.assertIs(is_told(desk.told), True)
            while len(past) > 1:
                past.pop()
                self.assertIsNone(desk.undo())
                self.assertEqual(state(desk), (past[-1], len(past) - 1))
            self.check_kept(desk, NothingToUndo, {}, desk.undo)

    def test_many_changes(self):
        desk = Desk(GARDEN)
        for at in range(600):
            desk.look((0, 1) if at % 2 else None)
        self.assertEqual(len(desk), 600)
        for _ in range(600):
            desk.undo()
        self.assertEqual(state(desk), (GARDEN, 0))


class TrialTest(DeskCase):

    def test_ends_well(self):
        desk = Desk(GARDEN)
        with desk.trial() as given:
            self.assertIs(given, desk)
            given.look(None)
            given.put("hall", (NIL, ONE))
        self.assertEqual(state(desk), (("walk", ((NIL, ONE), (THIRD, MORE)), None, ("hall", "yard")), 2))
        with desk.trial():
            desk.undo()
        self.assertEqual(state(desk), (GARDEN[:2] + (None, GARDEN[3]), 1))

    def test_ends_with_an_exception(self):
        for error in (Other(), ValueError("x"), WalkError(), NothingToUndo(), KeyError(1), KeyboardInterrupt(),
                      StopIteration(), GeneratorExit(), SystemExit(1)):
            for ahead in (0, 1, 3):
                desk = Desk(GARDEN)
                for _ in range(ahead):
                    desk.look(None)
                before = state(desk)
                with self.assertRaises(type(error)) as caught:
                    with desk.trial() as given:
                        for _ in range(ahead):
                            given.undo()
                        given.put("hall", (NIL, ONE))
                        desk.look((0, 1))
                        raise error
                self.assertIs(caught.exception, error)
                self.assertEqual(state(desk), before)
                for _ in range(ahead):
                    desk.undo()
                self.assertEqual(state(desk), (GARDEN, 0))

    def test_error_of_the_desk(self):
        desk = Desk(GARDEN)
        desk.look(None)
        before = state(desk)
        with self.assertRaises(InvalidWalk):
            with desk.trial():
                desk.undo()
                desk.put("hall", (NIL, ONE))
                desk.put("yard", (NIL, ONE))
        self.assertEqual(state(desk), before)
        # an error that does not leave the rows takes back nothing else
        with desk.trial():
            desk.look((0, 0))
            with self.assertRaises(NothingToUndo):
                while True:
                    desk.undo()
            desk.look((0, 1))
        self.assertEqual(state(desk), (GARDEN[:2] + ((0, 1), GARDEN[3]), 1))

    def test_nested(self):
        desk = Desk(BEDS)
        with desk.trial() as outer:
            outer.tie("a", "c", ONE)
            with self.assertRaises(Other):
                with outer.trial() as inner:
                    self.assertIs(inner, desk)
                    inner.undo()
                    inner.look((0, 0, 0))
                    inner.tie("a", "a", TWO)
                    raise Other()
            self.assertEqual([desk.told[1][0], desk.told[2], len(desk)], [(NIL, ONE, ONE), None, 1])
            with desk.trial():
                desk.look((0, 1, 1))
            self.assertEqual([desk.told[2], len(desk)], [(0, 1, 1), 2])
        self.assertEqual([desk.told[2], len(desk)], [(0, 1, 1), 2])
        with self.assertRaises(Other):
            with desk.trial():
                desk.undo()
                with desk.trial():
                    desk.undo()
                    desk.look((0, 0, 1))
                self.assertEqual(state(desk), (BEDS[:2] + ((0, 0, 1), BEDS[3]), 1))
                raise Other()
        self.assertEqual([desk.told[2], len(desk)], [(0, 1, 1), 2])

    def test_one_trial_entered_more_often(self):
        desk = Desk(BEDS)
        trial = desk.trial()
        for _ in range(2):
            with self.assertRaises(Other):
                with trial:
                    desk.look((0, 0, 0))
                    with self.assertRaises(Other):
                        with trial as again:
                            again.look((0, 0, 1))
                            raise Other()
                    self.assertEqual([desk.told[2], len(desk)], [(0, 0, 0), 1])
                    raise Other()
            self.assertEqual(state(desk), (BEDS, 0))
        with trial:
            desk.look((0, 1, 2))
        self.assertEqual([desk.told[2], len(desk)], [(0, 1, 2), 1])

    def test_called_and_not_entered(self):
        desk = Desk(GARDEN)
        kept = desk.trial()
        self.assertEqual(state(desk), (GARDEN, 0))
        desk.look(None)
        desk.trial()
        self.assertEqual([desk.told[2], len(desk)], [None, 1])
        # it begins where its rows begin, not where it was called
        with self.assertRaises(Other):
            with kept:
                desk.look((0, 0))
                raise Other()
        self.assertEqual([desk.told[2], len(desk)], [None, 1])

    def test_of_two_desks(self):
        one, other = Desk(GARDEN), Desk(GARDEN)
        with self.assertRaises(Other):
            with one.trial():
                one.look(None)
                other.look(None)
                raise Other()
        self.assertEqual([len(one), len(other), one.told == GARDEN, other.told[2]], [0, 1, True, None])

    def test_return_within(self):
        desk = Desk(GARDEN)

        def look():
            with desk.trial() as given:
                given.look(None)
                return "told"

        self.assertEqual([look(), desk.told[2], len(desk)], ["told", None, 1])


class TriedTest(DeskCase):

    def test_returns(self):
        desk, found = Desk(GARDEN), object()
        for value in (found, None, 0, False, "x", [1]):
            self.assertIs(desk.tried(lambda given: value), value)
        self.assertIs(desk.tried(lambda given: given), desk)
        self.assertEqual(state(desk), (GARDEN, 0))
        self.assertEqual([desk.tried(lambda given: given.look(None)), desk.told[2], len(desk)], [None, None, 1])
        self.assertEqual(desk.tried(action=lambda given: (given.look((0, 0)), len(given))), (None, 2))
        self.assertEqual([desk.told[2], len(desk)], [(0, 0), 2])

    def test_raises(self):
        desk = Desk(GARDEN)
        desk.look(None)
        before = state(desk)

        def wrong(given):
            given.undo()
            given.put("hall", (NIL, ONE))
            raise error

        for error in (Other(), WalkError(), InvalidWalk(3), StopIteration(), KeyboardInterrupt()):
            with self.assertRaises(type(error)) as caught:
                desk.tried(wrong)
            self.assertIs(caught.exception, error)
            self.assertEqual(state(desk), before)
        check_raises(self, InvalidChances, {"given": None}, lambda: desk.tried(lambda given: given.put("hall", None)))
        check_raises(self, NothingToUndo, {}, lambda: desk.tried(lambda given: [given.undo(), given.undo()]))
        self.assertEqual(state(desk), before)

    def test_nested(self):
        desk = Desk(BEDS)

        def outer(given):
            given.look((0, 0, 0))
            with self.assertRaises(NotOfThisKind):
                given.tried(lambda each: [each.undo(), each.put("a", None)])
            given.tried(lambda each: each.look((0, 0, 1)))
            return given.tried(len)

        self.assertEqual([desk.tried(outer), desk.told[2]], [2, (0, 0, 1)])
        self.assertIs(is_weights(RING), True)
        self.assertIs(Desk(("weights", TIE, None, ("a", "b"))).tried(bool), True)


if __name__ == "__main__":
    unittest.main()

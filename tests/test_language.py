"""What can be told, how texts tell it, where they are wrong, and how it is printed."""

import random
import unittest
from collections import Counter
from fractions import Fraction

from backwalks.errors import (InvalidNumber, InvalidText, InvalidTold, InvalidWalk, InvalidWeights, NoRow, NoSum,
                              TwiceNamed, UnknownName)
from backwalks.language import is_told, read_told, told_text
from tests.helpers import (ALONE, HALF, LEAN, LINE, NIL, ODD_VALUES, ONE, SWAP, THIRD, WHEEL, Odd, check_given,
                           check_raises, large_walk, many_walks, nested, pair)
from tests.nets import BARS, LOOP, NO_WEIGHTS, RING, TIE, large_weights, many_weights
from tests.texts import bent, drawn_names, drawn_text, outcome_by_hand, outcome_of, read_by_hand
from tests.views import glasses_by_hand

GARDEN = ("walk", ((HALF, HALF), (THIRD, (2, 3))), (1, 0), ("hall", "yard"))
BEDS = ("weights", BARS, None, ("a", "b", "c"))
WALK, NET = "walk\nplaces a b\n", "weights\nplaces a b\n"
NO_STRINGS = [None, b"walk", b"", 0, 1, True, ("walk",), ["walk"], {"walk": 1}, {"walk"}, Odd(), str, nested(20), (),
              Fraction(1), range(3)]
NO_NAMES = ["", "A", "aB", "1a", "a b", "a_b", "a-b", "\u00e9", "a\u00e9", "a\n", " a", "a ", "abcdefghijklm",
            "a\u00b2", "\u0430", "a\u0661", "a\uff11", None, True, 0, 1, b"a", ("a",), ["a"], {"a"}, {"a": 1}, Odd(),
            "a\x00"]


def no_told():
    """Values that are nothing told."""
    kind, walk, glasses, names = GARDEN
    found = [GARDEN[:3], GARDEN + (None,), [*GARDEN], (walk, kind, glasses, names), (kind, walk, names, glasses), WALK,
             (kind, walk, glasses), dict(enumerate(GARDEN)), ("weights", walk, glasses, names),
             ("walk", TIE, None, ("a",)), ("walk", BARS, None, ("a", "b", "c")), ("weights", WHEEL, None, BEDS[3])]
    found += [(word, walk, glasses, names) for word in ("Walk", "walk ", "", "walks", None, b"walk", 0, True, ("walk",),
                                                         ["walk"], {"walk"}, {"walk": 1}, Odd(), "weights\n", str)]
    found += [(word,) + BEDS[1:] for word in ("walk", "Weights", "", "net", None, b"weights", 1, True, ("weights",),
                                              ["weights"], {"weights": 1}, Odd())]
    tables = ODD_VALUES + [walk[:1], walk + walk, RING, (walk[0], (NIL, ONE))]
    found += [(kind, table, glasses, names) for table in tables]
    found += [("weights", table, None, ("a", "b", "c")) for table in NO_WEIGHTS]
    found += [(kind, walk, marks, names) for marks in ((), (0,), (0, 2), (1, 1), (0, 1, 2), [0, 1], "01", (0, True), 0,
                                                        False, (-1, 0), (0, None), {0: 1}, {0, 1}, ((0,), (1,)), Odd())]
    found += [(kind, walk, glasses, told) for told in ((), ("hall",), ("hall", "hall"), ["hall", "yard"], "ab", None,
                                                        ("hall", "yard", "a"), ("hall", "yard", "hall"), {"a", "b"}, 2,
                                                        {"hall": 0, "yard": 1})]
    return found + [(kind, walk, glasses, ("hall", name)) for name in NO_NAMES]


class IsToldTest(unittest.TestCase):

    def test_told(self):
        for value in (GARDEN, BEDS, ("walk", ALONE, None, ("a",)), ("weights", LOOP, (0,), ("a23456789012",)),
                      ("walk", SWAP, (0, 0), ("rest", "places")), ("weights", TIE, (0, 1), ("z", "z0")),
                      ("walk", large_walk(6), (0, 1, 2, 3, 4, 5), ("a", "b", "c", "d", "e", "f")),
                      ("weights", large_weights(2), None, ("walk", "weights"))):
            self.assertIs(is_told(value), True)
        self.assertIs(is_told(value=GARDEN), True)

    def test_not_told(self):
        for value in no_told() + ODD_VALUES:
            self.assertIs(is_told(value), False, value)
        self.assertIs(is_told(value=None), False)


class ReadTest(unittest.TestCase):

    def test_drawn_texts(self):
        source, found = random.Random(81), Counter()
        for at in range(6000):
            text = drawn_text(source) if at % 3 == 0 else bent(source, drawn_text(source))
            expected = outcome_by_hand(read_by_hand, text)
            self.assertEqual(outcome_of(read_told, text), expected, text)
            found[expected[0]] += 1
        for error in (InvalidText, InvalidWalk, InvalidWeights, UnknownName, TwiceNamed, NoSum, NoRow):
            self.assertGreater(found[error], 3, error)
        self.assertGreater(found["returned"], 1000)

    def test_each_sign_less_more_or_another(self):
        texts = ["walk\nplaces a b\nb: a 1/2, b rest\na: b 1\n= b; a",
                 "weights\nplaces a b\na - b 10/3\nb - b 2\n= a b"]
        for text in texts:
            for at in range(len(text) + 1):
                changed = {text[:at] + text[at + 1:], text[:at]}
                for sign in " ,:;-/=\nabr019\t.A\u00e9\u00b2\u0661\x00":
                    changed |= {text[:at] + sign + text[at:], text[:at] + sign + text[at + 1:]}
                for each in sorted(changed):
                    self.assertEqual(outcome_of(read_told, each), outcome_by_hand(read_by_hand, each), each)

    def test_no_strings(self):
        for value in NO_STRINGS:
            check_raises(self, InvalidText, {"line": None, "place": None}, lambda: read_told(value))
            check_raises(self, InvalidText, {"line": None, "place": None}, lambda: read_told(text=value))

    def check_wrong(self, text, error, line, place):
        check_raises(self, error, {"line": line, "place": place}, lambda: read_told(text))
        self.assertEqual(outcome_by_hand(read_by_hand, text), (error, {"line": line, "place": place}))

    def test_form(self):
        for text, line, place in (
                ("", 0, 0), ("w", 0, 1), ("wa", 0, 2), ("walk ", 0, 4), ("walks", 0, 4), ("weight", 0, 6),
                ("wealk", 0, 2), ("weightss", 0, 7), ("Walk", 0, 0), (" walk", 0, 0), ("\nwalk", 0, 0), ("walk", 1, 0),
                ("weights", 1, 0), ("walk\n", 1, 0), ("walk\nplaces", 1, 6), ("walk\nplaces ", 1, 7),
                ("walk\nplaces a ", 1, 9), ("walk\nplaces  a", 1, 7), ("walk\nplaces a  b", 1, 9),
                ("walk\nplaces A", 1, 7),
                ("walk\nplaces a,b", 1, 8), ("walk\nplaces a b c d e f g", 1, 18), ("walk\nplaces a b c d e f ", 1, 18),
                ("walk\nplace a", 1, 5), ("walk\nplaces abcdefghijklm", 1, 19), ("walk\nplaces 1a", 1, 7),
                ("walk\nplaces a\n", 2, 0),
                ("walk\nplaces a\na: a 1\n", 3, 0), ("walk\r\nplaces a", 0, 4), ("walk\nplaces a\n\na: a 1", 2, 0)):
            self.check_wrong(text, InvalidText, line, place)

    def test_lines_of_walks(self):
        digits = "1234567890" * 6
        for line, place in (
                ("a", 1), ("a:", 2), ("a: ", 3), ("a: b", 4), ("a: b ", 5), ("a: b r", 6), ("a: b res", 8),
                ("a: b rest,", 9), ("a: b rest, a 1", 9), ("a: b rests", 9), ("a: b rest ", 9), ("a: b 1,", 7),
                ("a: b 1, ", 8), ("a: b 1,a 0", 7), ("a: b 1 , a 0", 6), ("a : b 1", 1), ("a:b 1", 2), ("a:  b 1", 3),
                ("a: b  1", 5), ("a: b 1 ", 6), (" a: b 1", 0), ("a: b 01", 6), ("a: b 00", 6), ("a: b 1/", 7),
                ("a: b 1/0", 7), ("a: b 1/02", 7), ("a: b /2", 5), ("a: b 1/2/3", 8), ("a: b 0/5x", 8), ("a: b -1", 5),
                ("a: b 1.5", 6), ("a: b +1", 5), ("a: b 1 /2", 6), ("a: b 1/ 2", 7), ("a: b 1_0", 6), ("a: 1", 3),
                ("a: b " + digits + "1", 65), ("a: b 1/" + digits + "1", 67), ("abcdefghijklm: a 1", 12),
                ("a - b 1", 1), ("a: b 1, a 1, b 1, a 1, b 1, a 1, b 1", 31), ("a: b 1, a 1, b 1, a 1, b 1, a 1, ", 31),
                ("a: b \u00b2", 5), ("a: b 1\u0661", 6), ("\u00e9: b 1", 0), ("a: b 1\t", 6), ("walk", 4),
                ("places a b", 6)):
            self.check_wrong(WALK + line, InvalidText, 2, place)

    def test_lines_of_weights(self):
        for line, place in (
                ("", 0), ("a", 1), ("a ", 2), ("a -", 3), ("a - ", 4), ("a - b", 5), ("a - b ", 6), ("a - b rest", 6),
                ("a - b 1, a", 7), ("a-b 1", 1), ("a: b 1", 1), ("a -b 1", 3), ("a  - b 1", 2), ("a - b - 1", 6),
                ("a - b 1 ", 7), ("a - b 1/0", 8), ("a - b 03", 7), ("abcdefghijkl - abcdefghijklm 1", 27)):
            self.check_wrong(NET + line, InvalidText, 2, place)

    def test_lines_of_groups(self):
        for line, place in (
                ("=", 1), ("= ", 2), ("=a", 1), ("=  a", 2), ("= a ", 4), ("= a;", 4), ("= a; ", 5), ("= a;b", 4),
                ("= a ; b", 4), ("= a,b", 3), ("= ;", 2), ("= a b a b a b a", 13), ("= a; b; a; b; a; b; a", 18),
                ("= a; b; a; b; a; b c d e f g h", 28), (" = a", 0), ("== a", 1), ("= a= b", 3), ("= a 1", 4)):
            self.check_wrong(WALK + line, InvalidText, 2, place)
            self.check_wrong(NET + line, InvalidText, 2, place)
        for line in ("", "a: b 1", "= a", "a - b 1", "="):
            self.check_wrong(WALK + "= a\n" + line, InvalidText, 3, 0)
            self.check_wrong(NET + "a - b 1\n= a\n" + line, InvalidText, 4, 0)

    def test_names(self):
        for text, error, line, place in (
                ("walk\nplaces a b a", TwiceNamed, 1, 11), ("walk\nplaces b b c c", TwiceNamed, 1, 9),
                (WALK + "c: a 1", UnknownName, 2, 0), (WALK + "a: b 1\nb: c 1", UnknownName, 3, 3),
                (WALK + "a: b 1\na: b 1", TwiceNamed, 3, 0), (WALK + "a: b 1/2, b 1/2", TwiceNamed, 2, 10),
                (WALK + "a: b 1/2, a 1/4, c 1", UnknownName, 2, 17), (WALK + "a: b 1/2, b rest", TwiceNamed, 2, 10),
                (WALK + "aa: a 1", UnknownName, 2, 0), (NET + "a - c 1", UnknownName, 2, 4),
                (NET + "c - d 1", UnknownName, 2, 0), (NET + "a - b 1\nb - ab 1", UnknownName, 3, 4),
                (NET + "a - b 1\n= c", UnknownName, 3, 2), (NET + "a - b 1\n= a; a", TwiceNamed, 3, 5),
                (NET + "a - b 1\n= a a", TwiceNamed, 3, 4), (NET + "a - b 1\n= b a; c", UnknownName, 3, 7)):
            self.check_wrong(text, error, line, place)

    def test_sums(self):
        for line, place in (
                ("a: b 1/2", 5), ("a: b 1/2, a 1/3", 5), ("a: b 1/2, a 2/3, a 1", None), ("a: b 0", 5), ("a: b 2", 5),
                ("a: a 1, b 1/" + "9" * 60, 5), ("a: b 1/3, a 4/6, b 1", None), ("a: b 2, a rest", 5),
                ("a: a 1" + "0" * 59 + "/" + "9" * 60 + ", b rest", None), ("a: b " + "9" * 60, 5), ("a: a 0, b 0", 5)):
            if place is not None:
                self.check_wrong(WALK + line + "\nb: a 1", NoSum, 2, place)
        self.check_wrong("walk\nplaces ab b\nab: ab 1\nb: ab 1/3, b 1/3", NoSum, 3, 6)
        self.assertEqual(read_told(WALK + "a: a 0, b rest\nb: a 1, b rest")[1], SWAP)
        self.assertEqual(read_told(WALK + "a: b rest\nb: a 1/2, b rest")[1], ((NIL, ONE), (HALF, HALF)))

    def test_two_faults(self):
        for text, error, line, place in (
                # the form of all lines comes first
                ("walk\nplaces a a\na: a 1\nx", InvalidText, 3, 1), (WALK + "c: a 1\na: b", InvalidText, 3, 4),
                # then line by line, in each in order
                ("walk\nplaces a a\nc: a 1", TwiceNamed, 1, 9), (WALK + "a: b 1/2\nc: a 1", NoSum, 2, 5),
                (WALK + "c: a 1\na: b 1/2", UnknownName, 2, 0), (WALK + "a: b 1/2, c 1/3", UnknownName, 2, 10),
                (WALK + "a: b 1/2, b 1/3", TwiceNamed, 2, 10), (WALK + "a: b 1\na: c 1", TwiceNamed, 3, 0),
                (WALK + "a: b 1\nc: b 1/2", UnknownName, 3, 0), (WALK + "a: b 1, b 1, c 1", TwiceNamed, 2, 8),
                (WALK + "a: b 1\na: b 1/2", TwiceNamed, 3, 0), (WALK + "a: b 1\n= c", UnknownName, 3, 2),
                (WALK + "a: c 1\n= c", UnknownName, 2, 3), (WALK + "a: b 1/2\n= a a", NoSum, 2, 5)):
            self.check_wrong(text, error, line, place)
        # what no line shows comes last
        check_raises(self, NoRow, {"given": "a"}, lambda: read_told(WALK + "b: b 1"))
        check_raises(self, NoRow, {"given": "b"}, lambda: read_told(WALK + "a: a 1\n= b"))
        self.check_wrong(WALK + "a: a 1\n= b b", TwiceNamed, 3, 4)
        check_raises(self, NoRow, {"given": "c"}, lambda: read_told("walk\nplaces b c a\nb: a 1\na: b 1"))

    def test_what_is_no_walk_and_no_weights(self):
        check_raises(self, NoRow, {"given": "a"}, lambda: read_told("walk\nplaces a"))
        check_raises(self, NoRow, {"given": "a"}, lambda: read_told("walk\nplaces a b\n= b"))
        check_raises(self, InvalidWeights, {"given": (((0, 1),),)}, lambda: read_told("weights\nplaces a"))
        check_raises(self, InvalidWeights, {"given": ((NIL, NIL), (NIL, ONE))}, lambda: read_told(NET + "b - b 1"))
        check_raises(self, InvalidWalk, {"given": ((ONE, NIL), (ONE, NIL))}, lambda: read_told(WALK + "b: a 1\na: a 1"))
        check_raises(self, InvalidWalk, {"given": ((ONE, NIL), (NIL, ONE))},
                     lambda: read_told(WALK + "a: a rest\nb: a 0, b rest\n= a"))
        check_raises(self, InvalidWeights, {"given": ((ONE, NIL), (NIL, NIL))},
                     lambda: read_told(NET + "a - b 0\na - a 1\nb - a 0/7\n= a; b"))

    def test_told(self):
        self.assertEqual(read_told(text="walk\nplaces a\na: a rest"), ("walk", ALONE, None, ("a",)))
        self.assertEqual(read_told("weights\nplaces a\na - a 1\na - a 4/2\n= a"), ("weights", LOOP, (0,), ("a",)))
        self.assertEqual(read_told(NET + "b - a 1/3\na - b 1/6\nb - b 0"), ("weights", TIE, None, ("a", "b")))
        self.assertEqual(read_told(WALK + "b: b 4/6, a 2/6\na: b 3/6, a rest\n= b a"),
                         ("walk", LEAN, (0, 0), ("a", "b")))
        digits = "1" + "0" * 59
        told = read_told(f"walk\nplaces abcdefghijkl b\nb: b 1\nabcdefghijkl: b 1/{digits}, abcdefghijkl rest".replace(
            "b: b 1\n", "b: abcdefghijkl 1\n"))
        self.assertEqual(told[1], ((pair(1 - Fraction(1, 10 ** 59)), (1, 10 ** 59)), (ONE, NIL)))
        six = "a b c d e f"
        text = "walk\nplaces " + six + "".join(f"\n{name}: " + ", ".join(f"{each} 1/6" for each in six.split())
                                             for name in six.split()) + "\n= f; e; d; c; b; a"
        self.assertEqual(read_told(text), ("walk", (((1, 6),) * 6,) * 6, (5, 4, 3, 2, 1, 0), tuple(six.split())))
        self.assertEqual(read_told(text[:-len("; b; a")])[2], (4, 4, 3, 2, 1, 0))
        self.assertEqual(read_told(text[:-len("f; e; d; c; b; a")] + six)[2], (0,) * 6)


class TextTest(unittest.TestCase):

    def told_ones(self):
        source = random.Random(82)
        for kind, tables in (("walk", many_walks()), ("weights", many_weights())):
            for table in tables:
                names = tuple(drawn_names(source, len(table)))
                for glasses in (None, glasses_by_hand(source, len(table))):
                    yield (kind, table, glasses, names)

    def test_read_again(self):
        for told in self.told_ones():
            text = told_text(told)
            self.assertIs(is_told(told), True)
            self.assertEqual(read_told(text), told)
            self.assertEqual(read_by_hand(text), told)

    def test_lines(self):
        for kind, table, glasses, names in self.told_ones():
            lines = ["places " + " ".join(names)]
            for i, row in enumerate(table):
                numbers = [(j, str(Fraction(*number))) for j, number in enumerate(row) if number != NIL]
                if kind == "walk":
                    lines.append(f"{names[i]}: " + ", ".join(f"{names[j]} {number}" for j, number in numbers))
                else:
                    lines += [f"{names[i]} - {names[j]} {number}" for j, number in numbers if i <= j]
            if glasses is not None:
                groups = [" ".join(name for name, each in zip(names, glasses) if each == mark)
                          for mark in range(max(glasses) + 1)]
                lines.append("= " + "; ".join(groups))
            self.assertEqual(told_text((kind, table, glasses, names)), "\n".join([kind] + lines))

    def test_few_places(self):
        self.assertEqual(told_text(GARDEN), "walk\nplaces hall yard\nhall: hall 1/2, yard 1/2\n"
                                            "yard: hall 1/3, yard 2/3\n= yard; hall")
        self.assertEqual(told_text(told=BEDS), "weights\nplaces a b c\na - b 1\nb - c 2\nc - c 1")
        self.assertEqual(told_text(("walk", ALONE, None, ("a",))), "walk\nplaces a\na: a 1")
        self.assertEqual(told_text(("walk", LINE, (0, 0, 0), ("c", "b", "a"))),
                         "walk\nplaces c b a\nc: b 1\nb: c 1/3, a 2/3\na: b 2/3, a 1/3\n= c b a")

    def test_sixty_digits_and_more(self):
        for number in ((10 ** 60 - 1, 1), (1, 10 ** 60 - 1), (10 ** 59, 10 ** 59 + 1), (10 ** 60 - 1, 10 ** 59 - 1)):
            number = pair(Fraction(*number))
            told = ("weights", ((NIL, number), (number, NIL)), None, ("a", "b"))
            self.assertEqual(read_told(told_text(told)), told)
        for number in ((10 ** 60, 1), (1, 10 ** 60), (10 ** 60, 10 ** 60 + 1), (10 ** 60 - 1, 10 ** 60), (7, 10 ** 399),
                       (10 ** 5000, 3)):
            for table in (((NIL, number), (number, NIL)), ((ONE, ONE), (ONE, number)), ((number, ONE), (ONE, NIL))):
                told = ("weights", table, None, ("a", "b"))
                check_raises(self, InvalidNumber, {"given": number}, lambda: told_text(told))

    def test_first_number_too_large(self):
        first, second = (1, 10 ** 60), (10 ** 61, 3)
        for table in (((NIL, first), (first, second)), ((first, second), (second, NIL)),
                      ((ONE, first), (first, second))):
            check_raises(self, InvalidNumber, {"given": first},
                         lambda: told_text(told=("weights", table, (0, 1), ("a", "b"))))
        walk = ((HALF, HALF), (pair(Fraction(1, 10 ** 60)), pair(1 - Fraction(1, 10 ** 60))))
        check_raises(self, InvalidNumber, {"given": (1, 10 ** 60)}, lambda: told_text(("walk", walk, None, ("a", "b"))))
        walk = (walk[1], (ONE, NIL))
        check_raises(self, InvalidNumber, {"given": (1, 10 ** 60)}, lambda: told_text(("walk", walk, None, ("a", "b"))))
        many = ("a", "b", "c", "d")
        check_raises(self, InvalidNumber, {"given": large_walk(4)[0][0]},
                     lambda: told_text(("walk", large_walk(4), None, many)))

    def test_not_told(self):
        check_given(self, InvalidTold, (told_text, lambda value: told_text(told=value)), no_told() + ODD_VALUES)


if __name__ == "__main__":
    unittest.main()

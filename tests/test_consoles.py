"""The console: its lines, its answers, and what is wrong in lines."""

import random
import re
import unittest
from collections import Counter
from fractions import Fraction

from backwalks import errors
from backwalks.backward import unlike_ring
from backwalks.consoles import Console
from backwalks.desks import Desk
from backwalks.errors import (InvalidGlasses, InvalidNumber, InvalidRow, InvalidText, InvalidWalk, InvalidWeights,
                              NotADesk, NothingToUndo, NotOfThisKind, NoSum, TwiceNamed, UnknownName)
from backwalks.glasses import row_chance
from backwalks.language import told_text
from backwalks.seen import rank, telling
from backwalks.walks import flows_of, shares_of
from backwalks.weights import walk_of
from tests.helpers import (ALONE, HALF, LEAN, LINE, MORE, NIL, ODD_VALUES, ONE, SPIN, SWAP, THIRD, WHEEL, Odd,
                           check_given, check_raises, exact, large_walk, pair)
from tests.nets import BARS, RING, TIE, is_net
from tests.test_desks import some_desks
from tests.test_language import BEDS, GARDEN, NO_STRINGS
from tests.texts import (GROUPS, NAME, NUMBER, PARTS, Wrong, bent, drawn_groups, drawn_number, drawn_parts, endings_of,
                         groups_by_hand, is_line, outcome_by_hand, outcome_of, parts_by_hand, place_by_hand, told_of,
                         usable, words_from, wrong_place)

FORMS = [re.compile(form) for form in (
    f"put {NAME}: {PARTS}", f"tie {NAME} {NAME} {NUMBER}", f"look(?: {GROUPS})?", "undo|show|shares|ways|seen|rank",
    f"flow {NAME} {NAME}", "see [0-5](?: [0-5]){0,39}")]
ENDINGS = endings_of(["put a: a 1", "put a: a rest", "tie a a 1", "look a", "undo", "show", "shares", "flow a a",
                      "ways", "see 0", "seen", "rank", "/1", ", a 1", "; a", " a"])


def number_by_hand(number):
    number = pair(number)
    if max(number) >= 10 ** 60:
        raise Wrong(InvalidNumber, given=number)
    return str(Fraction(*number))


def sighted_by_hand(told, walk):
    if told[2] is None:
        raise Wrong(InvalidGlasses, given=None)
    return (walk, told[2])


class ByHand:
    """A console that answers by hand."""

    def __init__(self, told):
        self.past = [told]

    def say(self, line):
        if not is_line(line, FORMS):
            raise Wrong(InvalidText, line=0, place=wrong_place(line, FORMS, ENDINGS))
        kind, table, glasses, names = self.past[-1]
        word, walk = line.split(" ")[0], table if kind == "walk" else walk_of(table)
        if word in ("put", "tie", "look"):
            self.past.append(self.changed(line, word))
            return "done"
        if word == "undo":
            if len(self.past) == 1:
                raise Wrong(NothingToUndo)
            self.past.pop()
            return "done"
        return self.asked(line, word, walk)

    def changed(self, line, word):
        kind, table, glasses, names = self.past[-1]
        words = words_from(line, len(word))
        rows = [[Fraction(*number) for number in row] for row in table]
        if word == "look":
            return (kind, table, groups_by_hand(names, line, 5, 0) if words else None, names)
        if word == "put":
            place = place_by_hand(names, words[0], 0)
            rows[place] = parts_by_hand(names, words[1:], 0)
        else:
            here, there = [place_by_hand(names, each, 0) for each in words[:2]]
            rows[here][there] = rows[there][here] = Fraction(words[2][0])
        if (word == "put") != (kind == "walk"):
            raise Wrong(NotOfThisKind)
        if not (usable(rows) if word == "put" else is_net(rows)):
            raise Wrong(InvalidWalk if word == "put" else InvalidWeights, given=told_of(rows))
        return (kind, told_of(rows), glasses, names)

    def asked(self, line, word, walk):
        told = self.past[-1]
        names = told[3]
        if word == "show":
            return told_text(told)
        if word == "shares":
            return ", ".join(f"{name} {number_by_hand(share)}" for name, share in zip(names, exact(shares_of(walk))))
        if word == "flow":
            here, there = [place_by_hand(names, each, 0) for each in words_from(line, 4)]
            return number_by_hand(Fraction(*flows_of(walk)[here][there]))
        if word == "ways":
            ring = unlike_ring(walk)
            return "both" if ring is None else " ".join(names[place] for place in ring)
        sighted = sighted_by_hand(told, walk)
        if word == "rank":
            return str(rank(sighted))
        if word == "seen":
            row = telling(sighted)
            return "both" if row is None else " ".join(map(str, row))
        row = tuple(map(int, line.split(" ")[1:]))
        wrong = [index for index, mark in enumerate(row) if mark > max(told[2])]
        if wrong:
            raise Wrong(InvalidRow, index=wrong[0])
        return number_by_hand(Fraction(*row_chance(sighted, row)))


def drawn_line(source, told):
    """A line that is said to a console."""
    names, many = told[3], len(told[3])
    name, other = source.choice(names), source.choice(names)
    line = source.choice((
        f"put {name}: {drawn_parts(source, many, names)}", f"tie {name} {other} {drawn_number(source)}", "look", "undo",
        f"look {drawn_groups(source, list(names))}", "show", "shares", f"flow {name} {other}", "ways", "seen", "rank",
        "see " + " ".join(str(source.randrange(max(told[2] or (1,)) + 1)) for _ in range(source.randint(1, 5))),
        source.choice(("put a: b rest", "tie a b 0", "flow a z", "see 0 5", "put a: a 1", "look a a", "undo"))))
    return bent(source, line) if source.random() < 0.3 else line


class ConsoleCase(unittest.TestCase):

    def check_say(self, desk, line, error, kept):
        before = (desk.told, len(desk))
        check_raises(self, error, kept, lambda: Console(desk).say(line))
        self.assertEqual((desk.told, len(desk)), before)


class SayTest(ConsoleCase):

    def test_drawn_lines(self):
        source, found = random.Random(95), Counter()
        for told in some_desks() * 3:
            desk, hand = Desk(told), ByHand(told)
            console = Console(desk)
            for _ in range(40):
                line = drawn_line(source, desk.told)
                expected = outcome_by_hand(hand.say, line)
                self.assertEqual(outcome_of(console.say, line), expected, (desk.told, line))
                self.assertEqual((desk.told, len(desk)), (hand.past[-1], len(hand.past) - 1))
                found[expected[0]] += 1
        for error in (InvalidText, InvalidWalk, InvalidWeights, UnknownName, TwiceNamed, InvalidGlasses, InvalidRow,
                      NotOfThisKind, NothingToUndo):
            self.assertGreater(found[error], 3, error)
        self.assertGreater(found["returned"], 2000)

    def test_each_sign_less_more_or_another(self):
        for line in ("put a: b 1/2, a rest", "tie a b 10/3", "look a b; c", "look", "undo", "show", "shares",
                     "flow a b", "ways", "see 0 1 2", "seen", "rank"):
            for at in range(len(line) + 1):
                changed = {line[:at] + line[at + 1:], line[:at]}
                for sign in " ,:;-/=\nabestr0156\tA\u00e9\u00b2\u0661":
                    changed |= {line[:at] + sign + line[at:], line[:at] + sign + line[at + 1:]}
                for each in sorted(changed):
                    if not is_line(each, FORMS):
                        kept = {"line": 0, "place": wrong_place(each, FORMS, ENDINGS)}
                        self.check_say(Desk(BEDS), each, InvalidText, kept)

    def test_no_lines(self):
        for line, place in (
                ("", 0), (" ", 0), ("p", 1), ("put", 3), ("put ", 4), ("put hall", 8), ("put hall:", 9),
                ("put hall: ", 10),
                ("put hall: yard", 14), ("put hall: yard rest,", 19), ("put hall yard 1", 8), ("puts", 3), ("tie", 3),
                ("tie hall yard", 13), ("tie hall yard ", 14), ("tie hall - yard 1", 9), ("tie hall yard 1 ", 15),
                ("tie a b rest", 8), ("look ", 5), ("look hall;", 10), ("look  a", 5), ("looks", 4), ("lo", 2),
                ("undo ", 4),
                ("undo\n", 4), ("und", 3), ("show it", 4), ("sho w", 3), ("sh", 2), ("s", 1), ("sha", 3),
                ("shares 1", 6),
                ("flow", 4), ("flow hall", 9), ("flow hall ", 10), ("flow hall yard ", 14), ("ways?", 4), ("see", 3),
                ("see ", 4), ("see 6", 4), ("see 0 ", 6), ("see 0 6", 6), ("see 00", 5), ("see 0, 1", 5), ("see  0", 4),
                ("seen ", 4), ("seens", 4), ("se", 2), ("seel", 3), ("rank 1", 4), ("Rank", 0), (" show", 0),
                ("done", 0),
                ("walk", 2), ("hall: yard 1", 0), ("= hall", 0), ("see \u0661", 4), ("see 0 \u00b2", 6), ("show\r", 4),
                ("put abcdefghijklm: a 1", 16), ("tie a b 1/0", 10), ("flow 1 a", 5), ("flow a  b", 7)):
            for told in (GARDEN, BEDS):
                self.check_say(Desk(told), line, InvalidText, {"line": 0, "place": place})
            self.assertEqual(wrong_place(line, FORMS, ENDINGS), place)

    def test_no_strings(self):
        for value in NO_STRINGS:
            for call in (lambda: Console(Desk(GARDEN)).say(value), lambda: Console(Desk(BEDS)).say(line=value)):
                check_raises(self, InvalidText, {"line": None, "place": None}, call)

    def test_no_desk(self):
        values = ODD_VALUES + [GARDEN, Desk, Console, Console(Desk(GARDEN))]
        check_given(self, NotADesk, (Console, lambda value: Console(desk=value)), values)


class AnswersTest(ConsoleCase):

    def test_changes(self):
        desk = Desk(GARDEN)
        console = Console(desk=desk)
        self.assertEqual([console.say("put hall: yard rest"), desk.told[1], len(desk)],
                         ["done", ((NIL, ONE), (THIRD, MORE)), 1])
        self.assertEqual([console.say(line="put yard: hall 1/2, yard 1/2"), desk.told[1], len(desk)],
                         ["done", ((NIL, ONE), (HALF, HALF)), 2])
        self.assertEqual([console.say("look hall yard"), desk.told[2]], ["done", (0, 0)])
        self.assertEqual([console.say("look hall"), desk.told[2]], ["done", (0, 1)])
        self.assertEqual([console.say("look"), desk.told[2], len(desk)], ["done", None, 5])
        self.assertEqual([console.say("undo"), desk.told[2], len(desk)], ["done", (0, 1), 4])
        self.assertEqual([console.say("undo") for _ in range(4)], ["done"] * 4)
        self.assertEqual([desk.told, len(desk)], [GARDEN, 0])
        self.check_say(desk, "undo", NothingToUndo, {})
        beds = Desk(BEDS)
        self.assertEqual([Console(beds).say("tie c a 4/8"), beds.told[1][0], beds.told[1][2][0]],
                         ["done", (NIL, ONE, HALF), HALF])
        self.assertEqual([Console(beds).say("tie b b 0"), Console(beds).say("undo"), len(beds)], ["done", "done", 1])
        self.assertEqual([Console(beds).say("look c; a b"), beds.told[2]], ["done", (1, 1, 0)])

    def test_of_walks(self):
        console = Console(Desk(GARDEN))
        for line, answer in (("show", told_text(GARDEN)), ("shares", "hall 2/5, yard 3/5"), ("flow hall yard", "1/5"),
                             ("flow yard yard", "2/5"), ("ways", "both"), ("see 0 1", "1/5"), ("see 1", "2/5"),
                             ("seen", "both"), ("rank", "2")):
            self.assertEqual(console.say(line), answer)
        wheel = Console(Desk(("walk", WHEEL, (0, 1, 2), ("x", "a1", "b"))))
        for line, answer in (("ways", "x a1 b"), ("seen", "0 1"), ("rank", "3"), ("see 0 1 2 0 1", "1/3"),
        ("see 1 0", "0"),
                             ("flow x a1", "1/3"), ("flow a1 x", "0"), ("shares", "x 1/3, a1 1/3, b 1/3")):
            self.assertEqual(wheel.say(line), answer)
        self.assertEqual(wheel.say("look x a1"), "done")
        for line, answer in (("seen", "both"), ("rank", "3"), ("see 0 0 1", "1/3"), ("ways", "x a1 b")):
            self.assertEqual(wheel.say(line), answer)
        alone = Console(Desk(("walk", ALONE, (0,), ("a",))))
        for line, answer in (("shares", "a 1"), ("flow a a", "1"), ("ways", "both"), ("seen", "both"), ("rank", "1"),
                             ("see" + " 0" * 40, "1"), ("show", "walk\nplaces a\na: a 1\n= a")):
            self.assertEqual(alone.say(line), answer)

    def test_of_weights(self):
        console = Console(Desk(("weights", BARS, (0, 0, 1), ("a", "b", "c"))))
        for line, answer in (("shares", "a 1/7, b 3/7, c 3/7"), ("flow a b", "1/7"), ("flow c c", "1/7"),
        ("ways", "both"),
                             ("seen", "both"), ("see 0 1", "2/7"), ("rank", "3"),
                             ("show", "weights\nplaces a b c\na - b 1\nb - c 2\nc - c 1\n= a b; c")):
            self.assertEqual(console.say(line), answer)
        self.assertEqual(walk_of(BARS), LINE)
        spin = Console(Desk(("walk", SPIN, None, ("a", "b", "c"))))
        self.assertEqual([spin.say("ways"), spin.say("flow b c"), spin.say("look a; b; c"), spin.say("seen")],
                         ["a b c", "2/9", "done", "0 1"])

    def test_forty_marks(self):
        for many in (1, 39, 40):
            for told in (("walk", SWAP, (0, 0), ("a", "b")), ("weights", TIE, (0, 1), ("a", "b"))):
                self.assertEqual(Console(Desk(told)).say("see" + " 0" * many), "1" if max(told[2]) == 0 else
                                 ("1/2" if many == 1 else "0"))
        self.check_say(Desk(GARDEN), "see" + " 0" * 41, InvalidText, {"line": 0, "place": 83})
        self.check_say(Desk(GARDEN), "see" + " 0" * 40 + " ", InvalidText, {"line": 0, "place": 83})

    def test_errors_of_what_is_read(self):
        for line, error, place in (
                ("put home: yard 1", UnknownName, 4), ("put hall: home 1", UnknownName, 10),
                ("put hall: yard 1/2, yard 1/2", TwiceNamed, 20), ("put hall: yard 1/2", NoSum, 15),
                ("put hall: yard 2/3, hall 1/2", NoSum, 15), ("put hall: yard 3/2, hall rest", NoSum, 15),
                ("tie home hall 1", UnknownName, 4), ("tie hall home 1", UnknownName, 9), ("tie a b 1", UnknownName, 4),
                ("look home", UnknownName, 5), ("look hall; home", UnknownName, 11), ("look hall hall", TwiceNamed, 10),
                ("look hall; yard hall", TwiceNamed, 16), ("flow home hall", UnknownName, 5),
                ("flow hall home", UnknownName, 10), ("flow a b", UnknownName, 5)):
            # What is read is looked at ahead of what it is said to.
            for told in (GARDEN, ("weights", TIE, None, ("hall", "yard"))):
                self.check_say(Desk(told), line, error, {"line": 0, "place": place})

    def test_errors_of_what_is_called(self):
        net = ("weights", ((NIL, HALF), (HALF, NIL)), None, ("hall", "yard"))
        self.check_say(Desk(net), "put hall: yard 1", NotOfThisKind, {})
        self.check_say(Desk(net), "put hall: hall 1", NotOfThisKind, {})
        self.check_say(Desk(GARDEN), "tie hall yard 0", NotOfThisKind, {})
        self.check_say(Desk(GARDEN), "put hall: hall rest", InvalidWalk, {"given": ((ONE, NIL), (THIRD, MORE))})
        self.check_say(Desk(net), "tie yard hall 0", InvalidWeights, {"given": ((NIL, NIL), (NIL, NIL))})
        for line in ("see 0", "see 5", "seen", "rank"):
            self.check_say(Desk(net), line, InvalidGlasses, {"given": None})
            self.check_say(Desk(GARDEN[:2] + (None, GARDEN[3])), line, InvalidGlasses, {"given": None})
        for line, index in (("see 2", 0), ("see 0 1 2", 2), ("see 0 5 4", 1)):
            self.check_say(Desk(GARDEN), line, InvalidRow, {"index": index})

    def test_numbers_of_many_digits(self):
        tiny, rest = pair(Fraction(1, 10 ** 59)), pair(1 - Fraction(1, 10 ** 59))
        names = ("a", "b")
        desk = Desk(("walk", ((NIL, ONE), (tiny, rest)), (0, 1), names))
        shares = shares_of(desk.told[1])
        self.assertEqual(Console(desk).say("shares"), ", ".join(
            f"{name} {Fraction(*share)}" for name, share in zip(names, shares)))
        large = (pair(Fraction(1, 10 ** 60)), pair(1 - Fraction(1, 10 ** 60)))
        desk = Desk(("walk", ((THIRD, MORE), large), (0, 1), names))
        shares = shares_of(desk.told[1])
        self.check_say(desk, "shares", InvalidNumber, {"given": shares[0]})
        self.check_say(desk, "flow a b", InvalidNumber, {"given": flows_of(desk.told[1])[0][1]})
        self.check_say(desk, "see 1", InvalidNumber, {"given": shares[1]})
        self.check_say(desk, "show", InvalidNumber, {"given": (1, 10 ** 60)})
        self.assertEqual([Console(desk).say(line) for line in ("ways", "seen", "rank")], ["both", "both", "2"])
        # The first one that is too large is told; the second share alone.
        desk = Desk(("weights", ((NIL, ONE), (ONE, (10 ** 60 - 3, 1))), None, names))
        self.assertEqual(shares_of(walk_of(desk.told[1]))[0], (1, 10 ** 60 - 1))
        self.assertEqual(Console(desk).say("flow a b"), "1/" + "9" * 60)
        desk = Desk(("walk", large_walk(3), (0, 0, 0), ("a", "b", "c")))
        self.check_say(desk, "shares", InvalidNumber, {"given": shares_of(large_walk(3))[0]})
        self.assertEqual(Console(desk).say("see 0 0 0"), "1")
        self.check_say(desk, "show", InvalidNumber, {"given": large_walk(3)[0][0]})
        desk = Desk(("walk", ((NIL, ONE), (tiny, rest)), (0, 1), names))
        self.check_say(desk, "see 0 1 0 1", InvalidNumber,
                       {"given": row_chance((desk.told[1], (0, 1)), (0, 1, 0, 1))})

    def test_one_desk_and_two_consoles(self):
        desk = Desk(GARDEN)
        one, other = Console(desk), Console(desk)
        self.assertEqual([one.say("put hall: yard 1"), other.say("shares"), other.say("undo"), one.say("shares")],
                         ["done", "hall 1/4, yard 3/4", "done", "hall 2/5, yard 3/5"])
        with self.assertRaises(UnknownName):
            with desk.trial() as given:
                Console(given).say("look")
                Console(given).say("look home")
        self.assertEqual([one.say("see 0"), desk.told, len(desk)], ["3/5", GARDEN, 0])
        self.assertTrue(all(issubclass(error, errors.WalkError) for error in (NotADesk, InvalidText)))

    def test_lean(self):
        console = Console(Desk(("walk", LEAN, (1, 0), ("b", "a"))))
        self.assertEqual([console.say("shares"), console.say("see 1 0"), console.say("look b a"), console.say("rank")],
                         ["b 2/5, a 3/5", "1/5", "done", "1"])
        ring = Console(Desk(("weights", RING, None, ("a", "b", "c"))))
        self.assertEqual([ring.say("tie a b 2"), ring.say("flow b a"), ring.say("tie a a 2"), ring.say("flow a a")],
                         ["done", "1/4", "done", "1/5"])


if __name__ == "__main__":
    unittest.main()

"""Texts for the tests of the language: its forms as patterns, a reading of texts by them, and drawn texts.

Where a line is wrong is found by trying: a beginning can be gone on with if one of all endings makes it a line.
"""

import re
from fractions import Fraction

from backwalks import errors
from tests.helpers import pair, usable
from tests.nets import is_net

NAME = "[a-z][a-z0-9]{0,11}"
DIGITS = "[1-9][0-9]{0,59}"
NUMBER = f"(?:0|{DIGITS})(?:/{DIGITS})?"
PARTS = f"(?:{NAME} {NUMBER}, ){{0,5}}{NAME} (?:{NUMBER}|rest)"
GROUP = f"{NAME}(?: {NAME}){{0,5}}"
GROUPS = f"{GROUP}(?:; {GROUP}){{0,5}}"
FORMS = {
    "kind": re.compile("walk|weights"), "places": re.compile(f"places {GROUP}"), "walk": re.compile(f"{NAME}: {PARTS}"),
    "weights": re.compile(f"{NAME} - {NAME} {NUMBER}"), "groups": re.compile(f"= {GROUPS}"),
}
SAMPLES = ["walk", "weights", "places a", "a: a 1", "a: a rest", "a - a 1", "= a", "; a", ", a 1", "/1", " a"]


def endings_of(samples):
    """All endings of the samples, of no signs too."""
    return sorted({sample[at:] for sample in samples for at in range(len(sample) + 1)})


ENDINGS = endings_of(SAMPLES)


def is_line(line, forms):
    return any(form.fullmatch(line) for form in forms)


def wrong_place(line, forms, endings):
    """How many signs the longest beginning of the line has with which some line of the forms begins."""
    place = 0
    while place < len(line) and any(is_line(line[:place + 1] + ending, forms) for ending in endings):
        place += 1
    return place


def forms_at(lines, index):
    """The forms of lines that may stand at this index."""
    if index < 2:
        return [FORMS[("kind", "places")[index]]]
    if any(line.startswith("=") for line in lines[2:index]):
        return []
    return [FORMS[lines[0]], FORMS["groups"]]


class Wrong(Exception):
    """What is wrong in a text: the class of the error, and what it keeps."""

    def __init__(self, error, **kept):
        super().__init__(error.__name__, kept)
        self.error = error
        self.kept = kept


def check_form(lines):
    for index, line in enumerate(lines):
        forms = forms_at(lines, index)
        if not is_line(line, forms):
            raise Wrong(errors.InvalidText, line=index, place=wrong_place(line, forms, ENDINGS))
    if len(lines) < 2:
        raise Wrong(errors.InvalidText, line=1, place=0)


def words_from(line, start):
    """All names and numbers of a line from a place on, each with its place."""
    return [(found.group(), found.start() + start) for found in re.finditer("[a-z0-9/]+", line[start:])]


def place_by_hand(names, word, line, told=()):
    name, start = word
    if name not in names:
        raise Wrong(errors.UnknownName, line=line, place=start)
    if names.index(name) in told:
        raise Wrong(errors.TwiceNamed, line=line, place=start)
    return names.index(name)


def parts_by_hand(names, words, line):
    """The row of chances that is told by names and numbers in turn."""
    row, told = [Fraction(0)] * len(names), []
    for name, (number, _) in zip(words[::2], words[1::2]):
        told.append(place_by_hand(names, name, line, told))
        row[told[-1]] = Fraction(number) if number != "rest" else Fraction(0)
    rest = words[-1][0] == "rest"
    if sum(row) > 1 or (sum(row) < 1 and not rest):
        raise Wrong(errors.NoSum, line=line, place=words[1][1])
    if rest:
        row[told[-1]] = 1 - sum(row)
    return row


def groups_by_hand(names, line, start, index):
    """The glasses that the groups tell that stand in the line from a place on."""
    told = []
    for word in words_from(line, start):
        told.append(place_by_hand(names, word, index, told))
    groups = [group.split(" ") for group in line[start:].split("; ")]
    marks = {name: mark for mark, group in enumerate(groups) for name in group}
    return tuple(marks.get(name, len(groups)) for name in names)


def told_of(rows):
    return tuple(tuple(pair(number) for number in row) for row in rows)


def read_by_hand(text):
    """What the text tells; raises Wrong."""
    lines = text.split("\n")
    check_form(lines)
    kind, names, rows, glasses = lines[0], [], {}, None
    for name, start in words_from(lines[1], len("places ")):
        if name in names:
            raise Wrong(errors.TwiceNamed, line=1, place=start)
        names.append(name)
    table = [[Fraction(0)] * len(names) for _ in names]
    for index, line in enumerate(lines[2:], 2):
        words = words_from(line, 0)
        if line.startswith("="):
            glasses = groups_by_hand(names, line, 2, index)
        elif kind == "walk":
            place = place_by_hand(names, words[0], index, rows)
            rows[place] = parts_by_hand(names, words[1:], index)
        else:
            here, there = [place_by_hand(names, word, index) for word in words[:2]]
            table[here][there] += Fraction(words[2][0])
            table[there][here] = table[here][there]
    return (kind, table_by_hand(kind, names, rows, table), glasses, tuple(names))


def table_by_hand(kind, names, rows, table):
    """The table, if each place has a row and it is a walk, or weights."""
    if kind == "walk":
        for place, name in enumerate(names):
            if place not in rows:
                raise Wrong(errors.NoRow, given=name)
        table = [rows[place] for place in range(len(names))]
        if not usable(table):
            raise Wrong(errors.InvalidWalk, given=told_of(table))
    elif not is_net(table):
        raise Wrong(errors.InvalidWeights, given=told_of(table))
    return told_of(table)


def outcome_of(call, *given):
    """What the call returns, or the class of the error of the package that it raises and what this keeps."""
    try:
        return ("returned", call(*given))
    except errors.WalkError as error:
        return (type(error), vars(error))


def outcome_by_hand(call, *given):
    """What the call returns, or what it tells as wrong."""
    try:
        return ("returned", call(*given))
    except Wrong as wrong:
        return (wrong.error, wrong.kept)


def drawn_number(source):
    """A number as it may be written, often not in lowest terms."""
    top = source.choice((0, 1, 1, 1, 2, 3, source.randrange(100)))
    return source.choice((str(top), f"{top}/{source.randint(1, 6)}", f"{top}/{source.randint(1, 60)}"))


def drawn_names(source, many):
    """Unlike names, some of them of 12 signs."""
    names = ["a", "b", "hall", "yard", "z9", "r", "rest", "places", "walk", "abcdefghijkl", "a23456789012", "q0q0"]
    return source.sample(names, many)


def drawn_parts(source, many, names):
    """Parts whose numbers are 1 together, or less with a rest."""
    told, bottom = source.sample(names, source.randint(1, many)), source.randint(1, 12)
    cuts = sorted(source.randint(0, bottom) for _ in told[1:])
    tops = [after - ahead for ahead, after in zip([0] + cuts, cuts + [bottom])]
    parts = [f"{name} {top * 2}/{bottom * 2}" if source.random() < 0.2 else f"{name} {Fraction(top, bottom)}"
             for name, top in zip(told, tops)]
    if source.random() < 0.4:
        parts[-1] = f"{told[-1]} rest"
    return ", ".join(parts)


def drawn_groups(source, names):
    """Groups of some of the names."""
    told = source.sample(names, source.randint(1, len(names)))
    line = told[0]
    for name in told[1:]:
        line += source.choice((" ", "; ")) + name
    return line


def drawn_text(source):
    """A text of the form; most of them tell something."""
    kind, many = source.choice(("walk", "weights")), source.randint(1, 6)
    names = drawn_names(source, many)
    lines = []
    if kind == "walk":
        lines = [f"{name}: {drawn_parts(source, many, names)}" for name in source.sample(names, many)]
    else:
        for at, name in enumerate(names[1:]):
            lines.append(" - ".join(source.sample([name, source.choice(names[:at + 1])], 2)) + " 1")
        for _ in range(source.randint(0, 5)):
            lines.append(f"{source.choice(names)} - {source.choice(names)} {drawn_number(source)}")
    if source.random() < 0.5:
        lines.append("= " + drawn_groups(source, names))
    return "\n".join([kind, "places " + " ".join(names)] + lines)


SIGNS = "ab zr019/:,;-=\n\t.AZ_" + "\u00e9\u00b2\u0661\uff11\u0430\U0001d7d9\x00\x7f\r\ud800\u00a0"


def bent(source, text):
    """The text with some signs more, fewer or other ones, or with a word or a line in another place."""
    for _ in range(source.randint(1, 2)):
        at = source.randint(0, len(text))
        kind = source.random()
        if kind < 0.35:
            text = text[:at] + source.choice(SIGNS) + text[at:]
        elif kind < 0.6:
            text = text[:at] + text[at + 1:]
        elif kind < 0.75:
            text = text[:at] + source.choice(SIGNS) + text[at + 1:]
        elif kind < 0.85:
            words = re.split("( |\n)", text)
            words[source.randrange(0, len(words), 2)] = words[source.randrange(0, len(words), 2)]
            text = "".join(words)
        elif kind < 0.95:
            lines = text.split("\n")
            lines.insert(source.randint(0, len(lines)), source.choice(lines))
            text = "\n".join(lines)
        else:
            text = text[:at]
    return text

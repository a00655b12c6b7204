"""The language in which walks and weights are told: lines of texts, what they tell, and how it is printed."""

from backwalks.errors import InvalidNumber, InvalidText, InvalidTold, NoRow, NoSum, TwiceNamed, UnknownName
from backwalks.exact import NIL, ONE, is_below, lowest, minus, plus, total
from backwalks.glasses import are_marks
from backwalks.walks import MOST_PLACES, check_walk, is_walk
from backwalks.weights import check_weights, is_weights

KINDS = ("walk", "weights")
LETTERS = "abcdefghijklmnopqrstuvwxyz"
DIGITS = "0123456789"
FROM_ONE = "123456789"
LONGEST_NAME = 12
MOST_DIGITS = 60
TOO_LARGE = 10 ** 60


def is_name(value):
    """Whether any value is a name."""
    if not isinstance(value, str) or not 1 <= len(value) <= LONGEST_NAME:
        return False
    return value[0] in LETTERS and all([sign in LETTERS or sign in DIGITS for sign in value])


def are_names(many, value):
    """Whether any value is a tuple of so many unlike names."""
    if not isinstance(value, tuple) or len(value) != many:
        return False
    return all([is_name(name) for name in value]) and len(set(value)) == many


def is_told(value):
    """Whether any value is what can be told."""
    if not isinstance(value, tuple) or len(value) != 4:
        return False
    kind, table, glasses, names = value
    if not isinstance(kind, str) or kind not in KINDS:
        return False
    if not (is_walk(table) if kind == "walk" else is_weights(table)):
        return False
    return (glasses is None or are_marks(len(table), glasses)) and are_names(len(table), names)


def furthest(text, words):
    """How many signs the longest beginning of the text has that is the beginning of some of the words."""
    most = 0
    for word in words:
        alike = [sign == other for sign, other in zip(text, word)] + [False]
        most = max(most, alike.index(False))
    return most


class Line:
    """A line that is read sign by sign, up to the first sign by which no line of the form can go on.

    Names and numbers are read as pairs of what they tell and the place where they stand.
    """

    def __init__(self, index, text):
        self.index = index
        self.text = text
        self.at = 0

    def is_at(self, signs):
        """Whether the next sign is one of these."""
        return self.at < len(self.text) and self.text[self.at] in signs

    def take(self, word):
        """Read just this word."""
        for sign in word:
            self.one_of(sign)

    def one_of(self, signs):
        """Read one of these signs."""
        if not self.is_at(signs):
            raise InvalidText(self.index, self.at)
        self.at += 1
        return self.text[self.at - 1]

    def end(self):
        """Read the line's end."""
        if self.at < len(self.text):
            raise InvalidText(self.index, self.at)

    def follows(self, between):
        """Whether something more follows, told by the first sign of what stands between; read this."""
        if not self.is_at(between[0]):
            return False
        self.take(between)
        return True

    def name(self):
        """Read a name."""
        start = self.at
        self.one_of(LETTERS)
        while self.at - start < LONGEST_NAME and self.is_at(LETTERS + DIGITS):
            self.at += 1
        return (self.text[start:self.at], start)

    def digits(self, first):
        """Read decimal digits, the first one one of these; behind a first 0 there is none."""
        start = self.at
        sign = self.one_of(first)
        while sign != "0" and self.at - start < MOST_DIGITS and self.is_at(DIGITS):
            self.at += 1
        return int(self.text[start:self.at])

    def number(self):
        """Read a number."""
        start = self.at
        top = self.digits(DIGITS)
        bottom = self.digits(FROM_ONE) if self.follows("/") else 1
        return (lowest(top, bottom), start)

    def names(self):
        """Read 1 to 6 names."""
        found = [self.name()]
        while len(found) < MOST_PLACES and self.follows(" "):
            found.append(self.name())
        return found

    def groups(self):
        """Read 1 to 6 groups."""
        found = [self.names()]
        while len(found) < MOST_PLACES and self.follows("; "):
            found.append(self.names())
        return found

    def part(self):
        """Read a part: a name and a number, None for what is left."""
        name = self.name()
        self.take(" ")
        if not self.is_at("r"):
            return (name, self.number())
        start = self.at
        self.take("rest")
        return (name, (None, start))

    def parts(self):
        """Read 1 to 6 parts, that of what is left as the last one."""
        found = [self.part()]
        while len(found) < MOST_PLACES and found[-1][1][0] is not None and self.follows(", "):
            found.append(self.part())
        return found

    def row(self):
        """Read a place's line of a walk."""
        name = self.name()
        self.take(": ")
        return (name, self.parts())

    def tie(self):
        """Read a tie's line of weights."""
        name = self.name()
        self.take(" - ")
        other = self.name()
        self.take(" ")
        return (name, other, self.number())


def place_of(names, token, line):
    """The place that has the name that is read."""
    name, start = token
    if name not in names:
        raise UnknownName(line, start)
    return names.index(name)


def new_place_of(names, token, line, told):
    """The place that has the name that is read, and is none of those told ahead."""
    place = place_of(names, token, line)
    if place in told:
        raise TwiceNamed(line, token[1])
    return place


def row_of(names, parts, line):
    """The row of chances that the parts tell."""
    row, told = [NIL] * len(names), []
    for name, (number, _) in parts:
        told.append(new_place_of(names, name, line, told))
        row[told[-1]] = NIL if number is None else number
    in_all, has_rest = total(row), parts[-1][1][0] is None
    if is_below(ONE, in_all) or (in_all != ONE and not has_rest):
        raise NoSum(line, parts[0][1][1])
    if has_rest:
        row[told[-1]] = minus(ONE, in_all)
    return tuple(row)


def glasses_of(names, groups, line):
    """The glasses that the groups tell: places in none of them have the mark behind theirs."""
    marks = {}
    for mark, group in enumerate(groups):
        for token in group:
            marks[new_place_of(names, token, line, list(marks))] = mark
    return tuple([marks.get(place, len(groups)) for place in range(len(names))])


def kind_of(text):
    """The kind that the first line tells."""
    if text not in KINDS:
        raise InvalidText(0, furthest(text, KINDS))
    return text


def names_line(lines):
    """The names that the second line tells, as they are read."""
    if len(lines) == 1:
        raise InvalidText(1, 0)
    line = Line(1, lines[1])
    line.take("places ")
    names = line.names()
    line.end()
    return names


def body_of(kind, lines):
    """What the lines behind the names tell, as it is read, and the groups, None without such a line."""
    body, groups = [], None
    for index in range(2, len(lines)):
        line = Line(index, lines[index])
        if groups is not None:
            raise InvalidText(index, 0)
        if line.is_at("="):
            line.take("= ")
            groups = line.groups()
        else:
            body.append(line.row() if kind == "walk" else line.tie())
        line.end()
    return (body, groups)


def unlike_names(tokens):
    """The names that are read, none of them twice."""
    names = []
    for name, start in tokens:
        if name in names:
            raise TwiceNamed(1, start)
        names.append(name)
    return tuple(names)


def rows_of(names, body):
    """The rows of a walk by their places, as the lines tell them."""
    rows = {}
    for index, (name, parts) in enumerate(body):
        place = new_place_of(names, name, index + 2, list(rows))
        rows[place] = row_of(names, parts, index + 2)
    return rows


def rows_of_ties(names, body):
    """The rows of weights, as the lines of ties tell them."""
    places = range(len(names))
    table = [[NIL for _ in places] for _ in places]
    for index, (name, other, number) in enumerate(body):
        here, there = place_of(names, name, index + 2), place_of(names, other, index + 2)
        table[here][there] = plus(table[here][there], number[0])
        table[there][here] = table[here][there]
    return table


def walk_told(names, rows):
    """The walk of the rows, if each place has one and they make a walk."""
    for place, name in enumerate(names):
        if place not in rows:
            raise NoRow(name)
    walk = tuple([rows[place] for place in range(len(names))])
    check_walk(walk)
    return walk


def weights_told(rows):
    """The weights of the rows, if they make some."""
    weights = tuple([tuple(row) for row in rows])
    check_weights(weights)
    return weights


def read_told(text):
    """What the text tells."""
    if not isinstance(text, str):
        raise InvalidText(None, None)
    lines = text.split("\n")
    kind, tokens = kind_of(lines[0]), names_line(lines)
    body, groups = body_of(kind, lines)
    names = unlike_names(tokens)
    rows = rows_of(names, body) if kind == "walk" else rows_of_ties(names, body)
    glasses = None if groups is None else glasses_of(names, groups, len(lines) - 1)
    table = walk_told(names, rows) if kind == "walk" else weights_told(rows)
    return (kind, table, glasses, names)


def number_text(number):
    """A number from 0 on as it is printed."""
    top, bottom = number
    if top >= TOO_LARGE or bottom >= TOO_LARGE:
        raise InvalidNumber(number)
    return str(top) if bottom == 1 else f"{top}/{bottom}"


def parts_text(names, row):
    """The parts of those chances of a row that are above 0."""
    return ", ".join([f"{name} {number_text(number)}" for name, number in zip(names, row) if number != NIL])


def tie_lines(names, weights):
    """The lines of the weights above 0, each one once."""
    lines = []
    for here, row in enumerate(weights):
        for there, number in enumerate(row):
            if here <= there and number != NIL:
                lines.append(f"{names[here]} - {names[there]} {number_text(number)}")
    return lines


def groups_line(names, glasses):
    """The line of all groups."""
    pairs, groups = list(zip(names, glasses)), []
    for mark in range(max(glasses) + 1):
        groups.append(" ".join([name for name, each in pairs if each == mark]))
    return "= " + "; ".join(groups)


def told_text(told):
    """The text that tells it."""
    if not is_told(told):
        raise InvalidTold(told)
    kind, table, glasses, names = told
    lines = [kind, "places " + " ".join(names)]
    if kind == "walk":
        lines.extend([f"{name}: {parts_text(names, row)}" for name, row in zip(names, table)])
    else:
        lines.extend(tie_lines(names, table))
    if glasses is not None:
        lines.append(groups_line(names, glasses))
    return "\n".join(lines)

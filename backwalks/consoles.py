"""The console: lines by which a desk is changed and asked."""

from backwalks.backward import unlike_ring
from backwalks.desks import Desk
from backwalks.errors import InvalidGlasses, InvalidText, NotADesk
from backwalks.glasses import LONGEST_ROW, row_chance
from backwalks.language import Line, furthest, glasses_of, number_text, parts_text, place_of, row_of, told_text
from backwalks.seen import rank, telling
from backwalks.walks import flows_of, shares_of
from backwalks.weights import walk_of

DONE = "done"
BOTH = "both"
MARKS = "012345"


def walk_at(desk):
    """The walk that the desk tells, of weights theirs."""
    kind, table, _, _ = desk.told
    return table if kind == "walk" else walk_of(table)


def sighted_at(desk):
    """The walk that the desk tells, with its glasses."""
    glasses = desk.told[2]
    if glasses is None:
        raise InvalidGlasses(None)
    return (walk_at(desk), glasses)


def marks_read(line):
    """Read a row of marks."""
    found = []
    while len(found) == 0 or (len(found) < LONGEST_ROW and line.follows(" ")):
        found.append(int(line.one_of(MARKS)))
    return tuple(found)


def put(desk, line):
    line.take(" ")
    name, parts = line.row()
    line.end()
    names = desk.told[3]
    place_of(names, name, 0)
    desk.put(name[0], row_of(names, parts, 0))
    return DONE


def tie(desk, line):
    line.take(" ")
    name = line.name()
    line.take(" ")
    other = line.name()
    line.take(" ")
    number, _ = line.number()
    line.end()
    for token in (name, other):
        place_of(desk.told[3], token, 0)
    desk.tie(name[0], other[0], number)
    return DONE


def look(desk, line):
    groups = line.groups() if line.follows(" ") else None
    line.end()
    desk.look(None if groups is None else glasses_of(desk.told[3], groups, 0))
    return DONE


def undo(desk, line):
    line.end()
    desk.undo()
    return DONE


def show(desk, line):
    line.end()
    return told_text(desk.told)


def shares(desk, line):
    line.end()
    return parts_text(desk.told[3], shares_of(walk_at(desk)))


def flow(desk, line):
    line.take(" ")
    tokens = [line.name()]
    line.take(" ")
    tokens.append(line.name())
    line.end()
    here, there = [place_of(desk.told[3], token, 0) for token in tokens]
    return number_text(flows_of(walk_at(desk))[here][there])


def ways(desk, line):
    line.end()
    ring = unlike_ring(walk_at(desk))
    if ring is None:
        return BOTH
    return " ".join([desk.told[3][place] for place in ring])


def see(desk, line):
    line.take(" ")
    row = marks_read(line)
    line.end()
    return number_text(row_chance(sighted_at(desk), row))


def seen(desk, line):
    line.end()
    row = telling(sighted_at(desk))
    if row is None:
        return BOTH
    return " ".join([str(mark) for mark in row])


def rank_told(desk, line):
    line.end()
    return str(rank(sighted_at(desk)))


ANSWERS = {
    "put": put, "tie": tie, "look": look, "undo": undo, "show": show, "shares": shares, "flow": flow, "ways": ways,
    "see": see, "seen": seen, "rank": rank_told,
}


class Console:
    """Lines are said to it, and it answers."""

    def __init__(self, desk):
        if not isinstance(desk, Desk):
            raise NotADesk(desk)
        self.desk = desk

    def say(self, line):
        """The answer to the line."""
        if not isinstance(line, str):
            raise InvalidText(None, None)
        word = line.split(" ")[0]
        if word not in ANSWERS:
            raise InvalidText(0, furthest(line, list(ANSWERS)))
        answer = ANSWERS[word]
        said = Line(0, line)
        said.take(word)
        return answer(self.desk, said)

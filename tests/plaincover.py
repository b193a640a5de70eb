"""A cover by the words of the document alone: slow, and without papers."""

from kindsbyworth.putting import put_in, shifted
from kindsbyworth.reckoning import are_alike, head_way, outcome_way
from kindsbyworth.steps import shape_terms
from kindsbyworth.terms import parts_of, with_parts

BASE = 10 ** 6


class Never(Exception):
    pass


class Unclear(Exception):
    pass


def replaced(term, number, by, bodies=0):
    """The term with another for the open name of this number."""
    if term[0] == "at":
        return shifted(by, bodies) if term[1] - bodies == BASE + number else term
    parts = parts_of(term)
    binds = term[0] in ("to", "fun")
    return with_parts(term, tuple(replaced(part, number, by, bodies + (binds and at == 1)) for at, part in enumerate(parts)))


def is_in(term, number):
    return replaced(term, number, ("world", 0)) != term


class State:
    """Open names: marks, kinds, which are solved; the terms of the arguments."""

    def __init__(self, scope, marks, kinds, solved, terms):
        self.scope, self.marks, self.kinds, self.solved, self.terms = scope, marks, kinds, solved, terms

    def twin(self):
        return State(self.scope, list(self.marks), list(self.kinds), set(self.solved), self.terms)

    def named(self, mark, kind):
        self.marks.append(mark)
        self.kinds.append(kind)
        return ("at", BASE + len(self.marks) - 1)

    def solve(self, number, by, equations):
        self.solved.add(number)
        self.kinds = [replaced(kind, number, by) for kind in self.kinds]
        self.terms = tuple(replaced(term, number, by) for term in self.terms)
        return [(replaced(one, number, by), replaced(other, number, by)) for one, other in equations]

    def chosen(self, one, other):
        """(name, by) where one side is to be solved by the other one."""
        sides = [(here[1] - BASE, there) for here, there in ((one, other), (other, one))
                 if here[0] == "at" and not is_in(there, here[1] - BASE)]
        if len(sides) == 2 and sides[0][1][0] == "at":
            gone = [side for side in sides if self.marks[side[0]] == "gone"]
            sides = gone if len(gone) == 1 else [max(sides, key=lambda side: side[0])]
        return sides[0] if sides else None

    def go_through(self, equations):
        """What is left of the equations; Never."""
        idle = 0
        while idle < len(equations):
            one, other = equations.pop(0)
            if are_alike(self.scope, one, other):
                idle = 0
                continue
            first, second = outcome_way(self.scope, one)[1], outcome_way(self.scope, other)[1]
            side = self.chosen(first, second)
            if side is not None:
                equations = self.solve(side[0], side[1], equations)
                idle = 0
            elif first[0] == second[0] == "shape" and first[1] == second[1]:
                if first[2] != second[2]:
                    raise Never
                equations = list(zip(first[3], second[3])) + equations
                idle = 0
            else:
                equations.append((one, other))
                idle = idle + 1
        return equations

    def splits(self, number):
        """For each shape of the name's family the State, None where it comes to never; and what is left."""
        head = head_way(self.scope, self.kinds[number])[1]
        if head[0] != "family":
            raise Unclear
        family = self.scope.item_of(head[1])
        many = len(family[2])
        found = []
        for name, arguments, ends in family[5]:
            made = self.twin()
            terms = head[2][:many]
            for mark, kind in arguments:
                terms = terms + (made.named("gone" if self.marks[number] == "gone" else mark, put_in(kind, terms)),)
            equations = [(index, put_in(end, terms)) for index, end in zip(head[2][many:], ends)]
            equations = made.solve(number, ("shape", head[1], name, terms), equations)
            try:
                found.append((made, made.go_through(equations)))
            except Never:
                found.append((None, []))
        return found


def asks(state, patterns):
    left = list(zip(patterns, state.terms))
    while left:
        pattern, term = left.pop(0)
        if pattern[0] != "shape":
            continue
        if term[0] == "at":
            return "asks", term[1] - BASE
        within = shape_terms(state.scope, term)
        if within is None:
            raise Unclear
        if term[2] != pattern[1]:
            return "passes", None
        left = list(zip(pattern[2], within)) + left
    return "takes", None


def is_closed(state):
    for number in range(len(state.marks)):
        if number not in state.solved and state.marks[number] == "run":
            try:
                if all(made is None for made, left in state.splits(number)):
                    return True
            except Unclear:
                pass
    return False


def branches(state, rows):
    """What the branches are: numbers of rows, `closed`, `lacks`; Unclear."""
    for row, (patterns, body) in enumerate(rows):
        word, number = asks(state, patterns)
        if word == "takes":
            return [row]
        if word == "asks":
            found = []
            told = state.splits(number)
            if [made for made, left in told if left]:
                raise Unclear
            for made, left in told:
                found.extend(["closed"] if made is None else branches(made, rows))
            return found
    return ["closed" if is_closed(state) else "lacks"]


def plain_cover(scope, definition):
    """("covers", idle), ("lacks",) or ("unclear",)."""
    state = State(scope, [], [], set(), ())
    for mark, kind in definition[1]:
        state.terms = state.terms + (state.named(mark, put_in(kind, state.terms)),)
    try:
        found = branches(state, definition[4])
    except Unclear:
        return ("unclear",)
    if "lacks" in found:
        return ("lacks",)
    return "covers", tuple(row for row in range(len(definition[4])) if row not in found)

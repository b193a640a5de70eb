"""Making programs for the plain machine of bare ones."""

from kindsbyworth.bareterms import bare_bodies, bare_parts
from kindsbyworth.machine import START


class Node:
    """A part of a bare term that is made: its parts, and the numbers of the names open in it, rising."""

    def __init__(self, term, parts, names):
        self.term = term
        self.parts = parts
        self.names = names


def names_beneath(term, parts):
    """The numbers of the names open in a bare term of these parts, rising."""
    if term[0] == "at":
        return (term[1],)
    if len(parts) == 1:
        bodies = bare_bodies(term)
        return tuple([number - bodies for number in parts[0].names if number >= bodies])
    found = {number: True for part in parts for number in part.names}
    return tuple(sorted(list(found)))


def node_of(term):
    """The nodes of a bare term, however deep."""
    nodes = []
    left = [(term, False)]
    while left:
        here, is_ready = left.pop()
        parts = bare_parts(here)
        if not is_ready and parts:
            left.append((here, True))
            left.extend([(part, False) for part in reversed(parts)])
            continue
        first = len(nodes) - len(parts)
        inner = nodes[first:]
        del nodes[first:]
        nodes.append(Node(here, inner, names_beneath(here, inner)))
    return nodes[0]


class Making:
    """A program that is made: its blocks, and those still to make, each (name, how many locals, node, a dict
    from the numbers of names to those of the locals that they are, code that goes ahead)."""

    def __init__(self):
        self.blocks = []
        self.left = []
        self.many_named = 0

    def new_name(self):
        """The name of a further block."""
        self.many_named = self.many_named + 1
        return f"{START}{self.many_named}"

    def make_left(self):
        """Make all blocks that are left, and those that these bring."""
        while self.left:
            name, many, node, places, ahead = self.left.pop()
            self.blocks.append((name, many, tuple(ahead + self.code_of(node, places) + [("tell",)])))

    def code_of(self, node, places):
        """The rows that put what a node comes to on the stack."""
        code = []
        left = [(node, False)]
        while left:
            here, is_ready = left.pop()
            word = here.term[0]
            if word == "at":
                code.append(("local", places[here.term[1]]))
            elif word == "fun" or word == "wait":
                self._close(here, places, code)
            elif is_ready or not here.parts:
                code.append(self._last_row(here.term))
            else:
                left.append((here, True))
                left.extend([(part, False) for part in reversed(here.parts)])
        return code

    def _last_row(self, term):
        """The row that comes behind those of a term's parts."""
        if term[0] == "shape" or term[0] == "call":
            return (term[0], term[1], len(term[2]))
        return (term[0],)

    def _close(self, node, places, code):
        """The rows of a closure of the names open in a fun or wait, whose block is left to make."""
        bodies = bare_bodies(node.term)
        inner = {number + bodies: at for at, number in enumerate(node.names)}
        if bodies:
            inner[0] = len(node.names)
        name = self.new_name()
        self.left.append((name, len(inner), node.parts[0], inner, []))
        code.extend([("local", places[number]) for number in node.names])
        code.append(("close", name, len(node.names)))

    def define(self, definition):
        """Set down the blocks of a definition: one for each row, which calls the next one's where it doesn't take.

        Where no row is left, which no judged term comes to, a block goes on without end.
        """
        name, many, rows = definition
        if not rows:
            self.blocks.append((name, many, (("ask", 0, (), 0),) if many else (("call", name, 0), ("tell",))))
        for at, (patterns, body) in enumerate(rows):
            following = None if at == len(rows) - 1 else self.new_name()
            ahead, places = asks_of(patterns, many, following)
            self.left.append((name, many, node_of(body), places, ahead))
            name = following


def taken_of(patterns, many):
    """How locals are asked by a row's patterns: a list of (local, shape's name), and the locals that are taken."""
    asks, takes = [], []
    further = many
    left = list(reversed(list(enumerate(patterns))))
    while left:
        place, pattern = left.pop()
        if pattern[0] == "take":
            takes.append(place)
        elif pattern[0] == "shape":
            asks.append((place, pattern[1]))
            inner = [(further + at, part) for at, part in enumerate(pattern[2])]
            further = further + len(inner)
            left.extend(list(reversed(inner)))
    return asks, takes


def asks_of(patterns, many, following):
    """The rows that ask what a row's patterns do, which call the following block with the arguments where
    one isn't so; and the locals of the names of the row's body."""
    asks, takes = taken_of(patterns, many)
    places = {number: place for number, place in enumerate(reversed(takes))}
    fails = []
    if asks and following is not None:
        fails = [("local", place) for place in range(many)] + [("call", following, many), ("tell",)]
    code = []
    for at, (place, shape) in enumerate(asks):
        # What is done where an ask fails stands behind the first one, which goes over it.
        line = len(fails) + at
        here = line if at else 0
        code.append(("ask", place, ((shape, line + 1),), 1 if fails else here))
    return code[:1] + fails + code[1:], places


def made(program, term):
    """The program for the plain machine by which it tells what the closed bare term comes to."""
    making = Making()
    for definition in program:
        making.define(definition)
    making.left.append((START, 0, node_of(term), {}, []))
    making.make_left()
    return tuple(sorted(making.blocks, key=lambda block: block[0]))

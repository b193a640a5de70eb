"""Papers of rows read."""

from kindsbyworth.errors import NoRow
from kindsbyworth.moves import MovedNames
from kindsbyworth.places import Row, in_takes, is_of_takes
from kindsbyworth.reading import fits_by, is_told


class ReadRow(Row):
    """A row that is gone through by its paper's asks; NoRow, of any word, where these don't go."""

    def __init__(self, reader, number, asks):
        self.set_up(reader.scope, MovedNames(reader), number)
        self.reader = reader
        self.asks = asks

    def head_of(self, kind):
        """What the next ask's way leads the kind to."""
        at = len(self.shapes)
        head = None
        if at < len(self.asks) and is_told(self.asks[at], 2):
            head = self.reader.walked(kind, self.asks[at][0])
        if head is None:
            raise NoRow(self.number, "unread")
        return head

    def force(self, at, equations):
        """Do the moves of the ask of this number."""
        if self.names.moved(equations, self.asks[at][1]) != "done":
            raise NoRow(self.number, "unread")


def around_by(row, ways):
    """The telescope of a row's takes, whose kinds are what the ways lead to; None where one doesn't."""
    if not is_told(ways, len(row.takes)):
        return None
    around = ()
    for at, number in enumerate(row.takes):
        ahead = row.takes[:at]
        kind = row.reader.walked(row.names.kind(number), ways[at])
        if kind is None or not is_of_takes(kind, ahead):
            return None
        around = around + ((row.names.told[number][0], in_takes(kind, ahead)),)
    return around


def row_by(reader, definition, number, thing):
    """Whether it is the (asks, ways, fit) of a row."""
    if not is_told(thing, 3) or not isinstance(thing[0], tuple):
        return False
    patterns, body = definition[4][number]
    row = ReadRow(reader, number, thing[0])
    try:
        terms = row.go_through(patterns, definition[1])
    except NoRow:
        return False
    if len(row.shapes) != len(row.asks) or row.names.left or row.unsolved_due():
        return False
    around = around_by(row, thing[1])
    return around is not None and fits_by(reader, body, row.body_kind(definition[2], terms), thing[2], around, "run")

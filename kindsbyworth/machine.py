"""The plain machine: it runs blocks of code, row by row."""

from kindsbyworth.bareterms import DULL
from kindsbyworth.errors import TooLong
from kindsbyworth.limits import MOST

START = "."
# The word of a closure among worths: (word, block's name, worths).
CLOSURE = "close"


class Frame:
    """A block that is run: its code, the line where it goes on, its locals and its stack."""

    def __init__(self, code, worths):
        self.code = code
        self.line = 0
        self.worths = worths
        self.stack = []

    def last(self, many):
        """So many worths from the stack, the deepest first."""
        first = len(self.stack) - many
        worths = self.stack[first:]
        del self.stack[first:]
        return worths

    def branch(self, row):
        """Go on at the line of the shape of a local, its parts behind the locals, or at the row's own line."""
        _, number, lines, line = row
        here = self.worths[number]
        self.line = line
        if here[0] == "shape":
            for name, other in lines:
                if name == here[1]:
                    self.worths = self.worths + list(here[2])
                    self.line = other
                    return


class Machine:
    """Frames within frames; told is what the first one tells, None where a row can't be gone."""

    def __init__(self, blocks):
        self.codes = {name: code for name, many, code in blocks}
        self.frames = []
        self.told = None

    def begin(self, name, worths):
        """Begin a frame of a block; False where there is none."""
        code = self.codes.get(name)
        if code is None:
            return False
        self.frames.append(Frame(code, worths))
        return True

    def go_row(self):
        """Go the next row; False where it can't be gone."""
        frame = self.frames[-1]
        row = frame.code[frame.line]
        frame.line = frame.line + 1
        word = row[0]
        if word == "local":
            frame.stack.append(frame.worths[row[1]])
        elif word == "shape":
            frame.stack.append(("shape", row[1], tuple(frame.last(row[2]))))
        elif word == "dull":
            frame.stack.append(DULL)
        elif word == "close":
            frame.stack.append((CLOSURE, row[1], tuple(frame.last(row[2]))))
        elif word == "ask":
            frame.branch(row)
        elif word == "call":
            return self.begin(row[1], frame.last(row[2]))
        elif word == "tell":
            self._tell()
        else:
            return self._enter(frame.last(2 if word == "give" else 1))
        return True

    def _enter(self, worths):
        """Begin a frame of a closure's block, with what is given behind its worths; False of no closure."""
        closure = worths[0]
        return closure[0] == CLOSURE and self.begin(closure[1], list(closure[2]) + worths[1:])

    def _tell(self):
        """End a frame."""
        worth = self.frames.pop().stack[-1]
        if self.frames:
            self.frames[-1].stack.append(worth)
        else:
            self.told = worth


def run_made(blocks, *, most=MOST):
    """What a made program tells; TooLong."""
    machine = Machine(blocks)
    rows = 0
    goes = machine.begin(START, [])
    while goes and machine.told is None:
        if rows == most:
            raise TooLong(most)
        rows = rows + 1
        goes = machine.go_row()
    return machine.told

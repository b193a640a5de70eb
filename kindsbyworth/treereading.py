"""Trees of covers read, branch by branch."""

from kindsbyworth.asking import first_asked, opened_names
from kindsbyworth.lookups import family_of
from kindsbyworth.moves import MovedNames
from kindsbyworth.reading import is_told
from kindsbyworth.splits import shaped
from kindsbyworth.terms import is_count


class TreeReading:
    """A tree that is read: the branches still to read, each (names, tree), and the rows that have one."""

    def __init__(self, reader, definition, tree):
        names = MovedNames(reader)
        self.reader = reader
        self.rows = definition[4]
        self.terms = opened_names(names, definition[1])
        self.left = [(names, tree)]
        self.taken = {}

    def holds(self):
        """Whether it is a tree of the rows, each of which has a branch."""
        while self.left:
            names, tree = self.left.pop()
            if not isinstance(tree, tuple) or not tree or not self._branch(names, tree):
                return False
        return len(self.taken) == len(self.rows)

    def _branch(self, names, tree):
        """Read a branch, and set down those within; False where it isn't so."""
        word, number = first_asked(self.reader.scope, names, self.rows, self.terms)
        if word == "takes":
            self.taken[number] = True
            return is_told(tree, 2) and tree[0] == "row" and is_count(tree[1]) and tree[1] == number
        if word == "asks":
            return is_told(tree, 3) and tree[0] == "ask" and self._ask(names, number, tree)
        return word == "lacks" and is_told(tree, 4) and tree[0] == "empty" and self._is_empty(names, tree)

    def _split(self, names, number, way, many):
        """[(names, equations)] for each shape of what the way leads the name's kind to, if these are so many."""
        head = self.reader.walked(names.kind(number), way)
        if head is None or head[0] != "family":
            return None
        shapes = family_of(self.reader.scope, head[1])[5]
        return [shaped(names, number, head, shape) for shape in shapes] if len(shapes) == many else None

    def _ask(self, names, number, tree):
        """Read a split."""
        if not isinstance(tree[2], tuple) or not all([is_told(branch, 2) for branch in tree[2]]):
            return False
        made = self._split(names, number, tree[1], len(tree[2]))
        if made is None:
            return False
        for (inner, equations), (moves, told) in zip(made, tree[2]):
            word = inner.moved(equations, moves)
            if word is None or (word == "never") != (told is None):
                return False
            if word == "done":
                if inner.left:
                    return False
                self.left.append((inner, told))
        return True

    def _is_empty(self, names, tree):
        """Whether a branch is closed by the run name of this number."""
        number = tree[1]
        if not is_count(number) or number >= len(names.told) or number in names.solved:
            return False
        if names.told[number][0] != "run" or not isinstance(tree[3], tuple):
            return False
        made = self._split(names, number, tree[2], len(tree[3]))
        return made is not None and all([
            inner.moved(equations, moves) == "never" for (inner, equations), moves in zip(made, tree[3])
        ])


def tree_by(reader, definition, thing):
    """Whether it is a tree of the definition's rows."""
    return TreeReading(reader, definition, thing).holds()

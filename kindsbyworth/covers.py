"""Whether the rows of a definition cover all that they may be called with."""

from kindsbyworth.asking import first_asked, opened_names
from kindsbyworth.bench import Bench
from kindsbyworth.equations import Names
from kindsbyworth.errors import Holed, TooMuch, Unjudged
from kindsbyworth.inhabiting import filled_names
from kindsbyworth.judges import fitted
from kindsbyworth.limits import MOST
from kindsbyworth.putting import put_in
from kindsbyworth.running import run_of
from kindsbyworth.splits import emptied, split_told
from kindsbyworth.steps import rows_met
from kindsbyworth.terms import is_term


class Cover:
    """A cover on its way: the branches still to tell, the trees told, the rows that have one, those that lack."""

    def __init__(self, bench, definition):
        names = Names(bench, True)
        self.bench = bench
        self.definition = definition
        self.terms = opened_names(names, definition[1])
        self.left = [(names, None)]
        self.trees = []
        self.taken = {}
        self.lacking = []

    def is_clear(self):
        """Go through all branches, and tell whether none is unclear."""
        while self.left:
            names, joined = self.left.pop()
            if names is None:
                self._join(joined)
            elif not self._told(names):
                return False
        return True

    def _join(self, joined):
        """Make one tree of those of a split's branches."""
        way, moved = joined
        branches = []
        for moves, is_never in reversed(moved):
            branches.append((moves, None if is_never else self.trees.pop()))
        self.trees.append(("ask", way, tuple(list(reversed(branches)))))

    def _told(self, names):
        """Tell a branch, or split it; False where it is unclear."""
        word, number = first_asked(self.bench.scope, names, self.definition[4], self.terms)
        if word == "asks":
            return self._split(split_told(names, number))
        if word == "takes":
            self.taken[number] = True
            self.trees.append(("row", number))
        if word == "lacks":
            tree = emptied(names)
            if tree is None:
                self.lacking.append(names)
            self.trees.append(tree)
        return word != "unclear"

    def _split(self, told):
        """Set down the branches of a split; False where one is unclear."""
        if told is None or [made for made, moves in told[1] if made.left and not made.is_never]:
            return False
        way, branches = told
        self.left.append((None, (way, [(moves, made.is_never) for made, moves in branches])))
        self.left.extend([(made, None) for made, moves in reversed(branches) if not made.is_never])
        return True

    def lacked(self):
        """Arguments that no row takes, of a branch that lacks; None where none are found."""
        for names in self.lacking:
            filled = filled_names(names)
            if filled is not None:
                arguments = tuple([filled.put(term) for term in self.terms])
                if are_lacked(self.bench, self.definition, arguments):
                    return arguments
        return None


def fit_all(bench, telescope, terms):
    """Unjudged where closed terms don't fit the telescope, each in the manner of its mark."""
    for at, (mark, kind) in enumerate(telescope):
        fitted(bench, terms[at], put_in(kind, terms[:at]), (), mark, ())


def are_lacked(bench, definition, terms):
    """Whether these terms are arguments that no row takes."""
    try:
        fit_all(bench, definition[1], terms)
        worths = [
            run_of(bench.scope, term, most=bench.most)[0] if pair[0] == "run" else term
            for pair, term in zip(definition[1], terms)
        ]
    except (Unjudged, TooMuch, Holed):
        return False
    if None in worths:
        return False
    return rows_met(bench.scope, definition, worths)[0] != "takes"


def cover_told(bench, definition):
    """As covered."""
    cover = Cover(bench, definition)
    if not cover.is_clear():
        return ("unclear",)
    if not cover.lacking:
        idle = [row for row in range(len(definition[4])) if row not in cover.taken]
        return ("covers", cover.trees[0], tuple(idle))
    arguments = cover.lacked()
    return ("unclear",) if arguments is None else ("lacks", arguments)


def covered(scope, definition, *, most=MOST):
    """("covers", tree, idle), ("lacks", arguments) or ("unclear",)."""
    return cover_told(Bench(scope, most), definition)


def lacks_holds(scope, definition, thing, *, most=MOST):
    """Whether it is arguments that no row of the definition takes, of anything."""
    if not isinstance(thing, tuple) or len(thing) != len(definition[1]):
        return False
    if not all([is_term(term) for term in thing]):
        return False
    return are_lacked(Bench(scope, most), definition, thing)

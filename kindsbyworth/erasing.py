"""What is left of terms and Scopes when all is erased that only kinds need."""

from kindsbyworth.bareterms import DULL
from kindsbyworth.bench import Bench
from kindsbyworth.limits import MOST
from kindsbyworth.lots import waiting
from kindsbyworth.marks import call_marks, shape_marks
from kindsbyworth.rows import JudgedRow
from kindsbyworth.scopes import Scope


def opened(scope, term, around):
    """How a term is erased: (the words ahead of its parts, [(part, marks around it)]) of those parts that are left."""
    word = term[0]
    if word == "fun":
        name = "wait" if term[1] == "gone" else "fun"
        return (name,), [(term[3], around + (term[1],))]
    if word == "give":
        if term[1] == "gone":
            return ("go",), [(term[2], around)]
        return ("give",), [(term[2], around), (term[3], around)]
    if word == "shape":
        marks = shape_marks(scope, term[1], term[2])
        return ("shape", term[2]), [(part, around) for mark, part in zip(marks, term[3]) if mark == "run"]
    if word == "call":
        marks = call_marks(scope, term[1])
        return ("call", term[1]), [(part, around) for mark, part in zip(marks, term[2]) if mark == "run"]
    return DULL, []


def run_names(around, number):
    """How many run names are nearer than the one of this number."""
    nearest = around[max(0, len(around) - number):]
    return number - len([mark for mark in nearest if mark == "gone"])


def erased(scope, term, *, around=()):
    """The term erased, these marks of the names around it, the nearest last."""
    made = []
    left = [(term, around, None)]
    while left:
        here, marks, words = left.pop()
        if words is not None:
            # Marks tell here how many parts are left.
            first = len(made) - marks
            parts = tuple(made[first:])
            del made[first:]
            made.append(words + ((parts,) if len(words) == 2 else parts))
        elif here[0] == "at":
            made.append(("at", run_names(marks, here[1])))
        else:
            words, parts = opened(scope, here, marks)
            left.append((None, len(parts), words))
            left.extend([(part, inner, None) for part, inner in reversed(parts)])
    return made[0]


def kept_patterns(patterns, telescope, shapes):
    """The patterns of the run places of a telescope; shapes are those still to be meant, the next one last."""
    kept = []
    for pattern, (mark, kind) in zip(patterns, telescope):
        if mark == "gone":
            continue
        if pattern[0] == "shape":
            kept.append(("shape", pattern[1], kept_patterns(pattern[2], shapes.pop()[1], shapes)))
        else:
            kept.append(("take",) if pattern[0] == "take" else ("pass",))
    return tuple(kept)


def erased_row(bench, definition, number):
    """A row of run places alone; it is gone through, as only so its patterns tell of what families they are."""
    patterns, body = definition[4][number]
    row = JudgedRow(bench, number)
    row.go_through(patterns, definition[1])
    around = tuple([row.names.told[take][0] for take in row.takes])
    kept = kept_patterns(patterns, definition[1], list(reversed(row.shapes)))
    return kept, erased(bench.scope, body, around=around)


def erased_lot(scope, lot):
    """The definitions of a lot erased, by the Scope of those ahead of it and its open items."""
    bench = Bench(scope.grown((waiting(lot),)), MOST)
    found = []
    for definition in lot[1]:
        many = len([mark for mark, kind in definition[1] if mark == "run"])
        rows = tuple([erased_row(bench, definition, number) for number in range(len(definition[4]))])
        found.append((definition[0], many, rows))
    return found


def erased_scope(scope):
    """The bare program of a Scope's definitions, by names, rising."""
    ahead = Scope()
    found = []
    for item in scope.all_items:
        if item[0] == "lot":
            found.extend(erased_lot(ahead, item))
        ahead = ahead.grown((item,))
    return tuple(sorted(found, key=lambda definition: definition[0]))

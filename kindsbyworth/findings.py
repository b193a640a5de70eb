"""Findings: what is told once, and held by anybody again."""

from kindsbyworth.bench import Bench
from kindsbyworth.covers import lacks_holds
from kindsbyworth.ends import calls_of
from kindsbyworth.errors import TooMuch, Unjudged
from kindsbyworth.families import telescope_told
from kindsbyworth.itemchecks import paper_holds
from kindsbyworth.items import is_item, names_of
from kindsbyworth.limits import MOST
from kindsbyworth.lookups import has_open
from kindsbyworth.reading import is_told
from kindsbyworth.sameness import are_same_terms
from kindsbyworth.scopes import Scope
from kindsbyworth.smaller import fit_holds
from kindsbyworth.steps import coming, walked
from kindsbyworth.terms import is_term, laid_out


def scope_by(items, papers):
    """The Scope of items that are let by one behind another by these papers; None of anything else."""
    if not isinstance(items, tuple) or not is_told(papers, len(items)):
        return None
    scope = Scope()
    for item, paper in zip(items, papers):
        if not is_item(item) or not paper_holds(scope, item, paper):
            return None
        scope = scope.grown((item,))
    return scope


def is_closed_term(thing):
    """Whether it is a term in which no name is open."""
    return is_term(thing) and not has_open(thing)


def kind_finding(scope, term, kind, thing):
    """Whether a closed term fits a closed kind by this."""
    return is_closed_term(term) and is_closed_term(kind) and fit_holds(scope, term, kind, thing)


def step_finding(scope, term, way, other):
    """Whether a way leads a term to the other one."""
    if not is_term(term) or not is_term(other):
        return False
    told = walked(scope, term, way)
    return told is not None and are_same_terms(told, other)


def is_still_everywhere(scope, term):
    """Whether no step goes at any spot of the term."""
    return not any([coming(scope, part) is not None for spot, part, bodies in laid_out(term)])


def unlike_finding(scope, term, other, way, further):
    """Whether the ways lead both terms to unlike ones that go no step."""
    if not is_term(term) or not is_term(other):
        return False
    one, two = walked(scope, term, way), walked(scope, other, further)
    if one is None or two is None or are_same_terms(one, two):
        return False
    return is_still_everywhere(scope, one) and is_still_everywhere(scope, two)


def lacks_finding(scope, definition, arguments):
    """Whether no row of the definition takes these arguments."""
    if not is_item(("lot", (definition,))):
        return False
    try:
        telescope_told(Bench(scope, MOST), definition[1], ())
    except (Unjudged, TooMuch):
        return False
    return lacks_holds(scope, definition, arguments)


def ring_finding(lot, names):
    """Whether each of these names of a lot has a staying call of the next, the last one of the first."""
    if not is_item(lot) or lot[0] != "lot" or not isinstance(names, tuple) or not names:
        return False
    known = names_of(lot)
    if not all([name in known for name in names]) or len(set(names)) != len(names):
        return False
    staying = [(caller, called) for caller, row, called, word in calls_of(lot[1]) if word == "stays"]
    return all([pair in staying for pair in zip(names, names[1:] + names[:1])])


def finding_holds(thing):
    """Whether it is a finding that holds, of anything."""
    if not isinstance(thing, tuple) or not thing:
        return False
    if is_told(thing, 3) and thing[0] == "ring":
        return ring_finding(thing[1], thing[2])
    if len(thing) < 5:
        return False
    scope = scope_by(thing[1], thing[2])
    if scope is None:
        return False
    word, rest = thing[0], thing[3:]
    if word == "kind" and len(rest) == 3:
        return kind_finding(scope, rest[0], rest[1], rest[2])
    if word == "step" and len(rest) == 3:
        return step_finding(scope, rest[0], rest[1], rest[2])
    if word == "lacks" and len(rest) == 2:
        return lacks_finding(scope, rest[0], rest[1])
    if word == "unlike" and len(rest) == 4:
        return unlike_finding(scope, rest[0], rest[1], rest[2], rest[3])
    return False

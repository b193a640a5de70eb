"""Kinds of terms, and whether terms fit kinds."""

from kindsbyworth.bench import Bench
from kindsbyworth.judges import fitted, kind_told
from kindsbyworth.limits import MOST


def kind_of(scope, term, *, around=(), manner="run", most=MOST):
    """The term's kind; Unjudged where it has none."""
    return kind_told(Bench(scope, most), term, around, manner, ())[0]


def fit(scope, term, kind, *, around=(), manner="run", most=MOST):
    """Nothing where the term fits the kind; else Unjudged."""
    fitted(Bench(scope, most), term, kind, around, manner, ())

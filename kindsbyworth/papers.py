"""The papers of kinds and fits, for the smaller judge."""

from kindsbyworth.bench import Bench
from kindsbyworth.judges import fitted, kind_told
from kindsbyworth.limits import MOST


def kind_paper(scope, term, *, around=(), manner="run", most=MOST):
    """The paper of the term's kind; Unjudged where it has none."""
    return kind_told(Bench(scope, most), term, around, manner, ())[1]


def fit_paper(scope, term, kind, *, around=(), manner="run", most=MOST):
    """The fit of the term and the kind; Unjudged where it doesn't fit."""
    return fitted(Bench(scope, most), term, kind, around, manner, ())

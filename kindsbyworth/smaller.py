"""What papers tell of terms, whoever wrote them."""

from kindsbyworth.reading import Reader, fits_by, told_by


def kind_by(scope, term, thing, *, around=(), manner="run"):
    """The term's kind by a paper, of anything; None where it is none of it."""
    return told_by(Reader(scope, {}), term, thing, around, manner)


def fit_holds(scope, term, kind, thing, *, around=(), manner="run"):
    """Whether it is a fit of the term and the kind, of anything."""
    return fits_by(Reader(scope, {}), term, kind, thing, around, manner)

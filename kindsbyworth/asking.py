"""What rows ask of open names."""

from kindsbyworth.opennames import number_of
from kindsbyworth.putting import put_in
from kindsbyworth.steps import shape_terms


def asked(scope, names, patterns, terms):
    """What a row's patterns do first: (word, number), `asks` the name of this number, `passes`,
    `unclear`, or `takes`."""
    for pattern, term in zip(patterns, terms):
        if pattern[0] != "shape":
            continue
        # A name may be solved by another one, and this later on.
        while term[0] == "at":
            number = number_of(term[1], 0)
            if number not in names.solved:
                return "asks", number
            term = names.solved[number]
        within = shape_terms(scope, term)
        if within is None:
            return "unclear", None
        if term[2] != pattern[1] or len(within) != len(pattern[2]):
            return "passes", None
        told = asked(scope, names, pattern[2], within)
        if told[0] != "takes":
            return told
    return "takes", None


def first_asked(scope, names, rows, terms):
    """(word, number) of the first row that isn't shut out: `takes` with the row's number, `asks` with
    that of the name, or `unclear`; `lacks` where all are shut out."""
    for row, (patterns, body) in enumerate(rows):
        word, number = asked(scope, names, patterns, terms)
        if word != "passes":
            return word, row if word == "takes" else number
    return "lacks", None


def opened_names(names, telescope):
    """The terms of new open names for a definition's arguments."""
    terms = ()
    for mark, kind in telescope:
        terms = terms + (names.named(mark, put_in(kind, terms), True),)
    return terms

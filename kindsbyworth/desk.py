"""A desk: libraries that are told texts of lines."""

from kindsbyworth.baretexts import show_bare
from kindsbyworth.erasing import erased
from kindsbyworth.errors import NoText
from kindsbyworth.itemtexts import read_item
from kindsbyworth.items import names_of
from kindsbyworth.kinds import kind_of
from kindsbyworth.libraries import Libraries
from kindsbyworth.reckoning import outcome_way
from kindsbyworth.terms import is_figures
from kindsbyworth.termtexts import read_term, show_term

# Of each word: how many words stand behind it, and what is written in the lines below.
FORMS = {
    "begin": (1, ""), "put": (1, "item"), "change": (1, "item"), "out": (2, ""), "fill": (2, "term"), "back": (1, ""),
    "picture": (1, ""), "holes": (1, ""), "kind": (1, "term"), "outcome": (1, "term"), "run": (1, "term"),
    "bare": (1, "term"), "names": (1, ""),
}


def read_words(line):
    """The words of a first line; NoText of what is none."""
    words = line.split(" ")
    if "" in words or words[0] not in FORMS or len(words) != FORMS[words[0]][0] + 1:
        raise NoText("no line begins so")
    if words[0] == "back" and not is_figures(words[1]):
        raise NoText("a number is wanted")
    return words


def read_below(form, lines):
    """The item or term that is written below a first line, None where nothing is to be; NoText."""
    if form == "":
        if lines:
            raise NoText("no lines are wanted below")
        return None
    text = "\n".join(lines)
    return read_item(text) if form == "item" else read_term(text)


def read_said(text):
    """(words, what is written below) of a text; NoText of anything else."""
    if not isinstance(text, str):
        raise NoText("a text is wanted")
    lines = text.split("\n")
    words = read_words(lines[0])
    return words, read_below(FORMS[words[0]][1], lines[1:])


def hole_lines(row):
    """The lines of a hole's row."""
    name, around, manner, wish = row
    return [f"{name} {manner} {show_term(wish)}"] + [f"{mark} {show_term(kind)}" for mark, kind in around]


class Desk:
    """Libraries of its own, and what is said of them."""

    def __init__(self):
        self._libraries = Libraries()

    def say(self, text):
        """What is told of a text; NoText of what is none, else refused as libraries refuse it."""
        words, below = read_said(text)
        word = words[0]
        if word in ("begin", "put", "out", "back"):
            self._do(words, below)
            return "ok"
        if word == "change":
            return " ".join(["ok"] + list(self._libraries.change(words[1], below)))
        if word == "fill":
            return " ".join(["ok"] + list(self._libraries.fill(words[1], words[2], below)))
        if word == "picture":
            return str(self._libraries.picture(words[1]))
        if word == "holes":
            return self._holes(words[1])
        if word == "names":
            return self._names(words[1])
        return self._asked(word, words[1], below)

    def _do(self, words, below):
        """Do what nothing but ok is told of."""
        if words[0] == "begin":
            self._libraries.begin(words[1])
        elif words[0] == "put":
            self._libraries.put(words[1], below)
        elif words[0] == "out":
            self._libraries.out(words[1], words[2])
        else:
            self._libraries.back(int(words[1]))

    def _holes(self, lib):
        """The lines of all holes of a library."""
        lines = [line for row in self._libraries.holes(lib) for line in hole_lines(row)]
        return "\n".join(lines) if lines else "none"

    def _names(self, lib):
        """All names of all items of a library."""
        names = [name for item in self._libraries.typed(lib) for name in names_of(item)]
        return " ".join(names) if names else "none"

    def _asked(self, word, lib, term):
        """What is told of a closed term, which is judged first."""
        scope = self._libraries.scope(lib)
        if word in ("run", "bare"):
            worth = self._libraries.run(lib, term)[0]
            return show_term(worth) if word == "run" else show_bare(erased(scope, worth))
        kind = kind_of(scope, term)
        return show_term(outcome_way(scope, kind if word == "kind" else term)[1])

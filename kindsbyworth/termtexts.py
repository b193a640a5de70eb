"""How terms are written and read."""

from kindsbyworth.brackets import bracketed, unbracketed
from kindsbyworth.errors import NoText
from kindsbyworth.terms import is_figures, is_term, parts_of


def term_opened(term):
    """The words ahead of its parts, and these, None of what stands without brackets."""
    if term[0] == "at":
        return f"@{term[1]}", None
    if term[0] == "world":
        return f"!{term[1]}", None
    if term[0] == "hole":
        return f"?{term[1]}", None
    return " ".join([word for word in term if isinstance(word, str)]), parts_of(term)


def show_term(term):
    """The text of a term."""
    return bracketed(term, term_opened)


def term_of_word(word):
    """The term without brackets that is so written, else the word itself."""
    sign, rest = word[0], word[1:]
    if sign == "@" and is_figures(rest):
        return ("at", int(rest))
    if sign == "!" and is_figures(rest):
        return ("world", int(rest))
    if sign == "?":
        return ("hole", rest)
    return word


def term_of_list(words):
    """What stands in brackets as a tuple, its terms where those of a term so begun stand."""
    if words and words[0] in ("to", "fun", "give"):
        return tuple(words)
    if words and words[0] in ("family", "call"):
        return tuple(words[:2]) + (tuple(words[2:]),)
    if words and words[0] == "shape":
        return tuple(words[:3]) + (tuple(words[3:]),)
    raise NoText("no term begins so")


def read_term(text):
    """The term that is just so written; NoText of anything else."""
    if not isinstance(text, str):
        raise NoText("a text is wanted")
    found = unbracketed(text, term_of_word, term_of_list)
    if len(found) != 1 or not is_term(found[0]) or show_term(found[0]) != text:
        raise NoText("no term is so written")
    return found[0]

"""Items as texts, one behind another, and Scopes of them, that several tests need."""

from kindsbyworth.itemtexts import read_item
from kindsbyworth.scopes import Scope
from kindsbyworth.termtexts import read_term

TEXTS = {
    "nat": """family nat 0
shape zero
shape next
take run (family nat)""",
    "bool": """family bool 0
shape yes
shape no""",
    "void": "family void 0",
    "list": """family list 1
param !0
shape nil
shape cons
take run @0
take run (family list @1)""",
    "vec": """family vec 1
param !0
index (family nat)
shape none
end (shape nat zero)
shape some
take gone (family nat)
take run @1
take run (family vec @2 @1)
end (shape nat next @2)""",
    "fin": """family fin 0
index (family nat)
shape first
take gone (family nat)
end (shape nat next @0)
shape further
take gone (family nat)
take run (family fin @0)
end (shape nat next @1)""",
    "eq": """family eq 2
param !0
param @0
index @1
shape same
end @0""",
    "tree": """family tree 0
shape leaf
shape node
take run (to run (family nat) (family tree))""",
    "box": """family box 1
param !0
shape boxed
take gone @0""",
    "add": """define add 0
take run (family nat)
take run (family nat)
result (family nat)
row (zero) *
body @0
row (next *) *
body (shape nat next (call add @1 @0))""",
    "twice": """define twice 0
take run (family nat)
result (family nat)
row (zero)
body (shape nat zero)
row (next *)
body (shape nat next (shape nat next (call twice @0)))""",
    "even": """define even 0
take run (family nat)
result (family bool)
row (zero)
body (shape bool yes)
row (next *)
body (call odd @0)
define odd 0
take run (family nat)
result (family bool)
row (zero)
body (shape bool no)
row (next *)
body (call even @0)""",
    "kindby": """define kindby 0
take run (family bool)
result !0
row (yes)
body (family nat)
row (no)
body (family bool)""",
    "append": """define append 3
take gone !0
take gone (family nat)
take gone (family nat)
take run (family vec @2 @1)
take run (family vec @3 @1)
result (family vec @4 (call add @3 @2))
row * - * (none) *
body @0
row * - * (some * * *) *
body (shape vec some @5 (call add @3 @4) @2 (call append @5 @3 @4 @1 @0))""",
    "head": """define head 2
take gone !0
take gone (family nat)
take run (family vec @1 (shape nat next @0))
result @2
row * * (some - * *)
body @1""",
    "sym": """define sym -
take gone !0
take gone @0
take gone @1
take run (family eq @2 @1 @0)
result (family eq @3 @1 @2)
row * * - (same)
body (shape eq same @1 @0)""",
    "never": """define never 0
take run (family void)
result (family nat)""",
    "pred": """define pred -
take run (family nat)
result (family nat)
row (next *)
body @0
row (zero)
body (shape nat zero)""",
    "same": """define same -
take gone !0
take run @0
result @1
row * *
body @0""",
}
ORDER = tuple(TEXTS)
SHORT = {"N": "(family nat)", "B": "(family bool)", "Y": "(shape bool yes)", "F": "(shape bool no)",
         "V": "(family void)", "S": "shape nat next"}


def item(name):
    """The item that has this key."""
    return read_item(TEXTS[name])


def scope_of(*names):
    """A Scope of these items."""
    return Scope(tuple([item(name) for name in names]))


def whole():
    """A Scope of all items."""
    return scope_of(*ORDER)


def t(text):
    """The term so written, but that 0, 1 .. stand for that many of next, (S X) for one, and SHORT for more."""
    words = text.replace("(", " ( ").replace(")", " ) ").split()
    told = " ".join([short(word) for word in words])
    return read_term(told.replace("( ", "(").replace(" )", ")"))


def short(word):
    if word.isdigit():
        return "(shape nat next " * int(word) + "(shape nat zero)" + ")" * int(word)
    return SHORT.get(word, word)


def tele(*pairs):
    """A telescope of texts, each `run KIND` or `gone KIND`."""
    return tuple([(pair.split(" ", 1)[0], t(pair.split(" ", 1)[1])) for pair in pairs])

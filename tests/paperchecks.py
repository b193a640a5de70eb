"""Whether papers of items are as the document has them, gone through move by move.

Written from the points on papers alone, so that what the judge tells is held
against another reading of them.
"""

from kindsbyworth.bench import Bench
from kindsbyworth.ends import calls_of
from kindsbyworth.equations import Names
from kindsbyworth.opennames import number_of
from kindsbyworth.families import has_family, is_held_well
from kindsbyworth.holes import lifted, opened, wishes
from kindsbyworth.putting import put_in
from kindsbyworth.reading import Reader, fits_by, told_by, world_by
from kindsbyworth.rows import in_takes, is_of_takes
from kindsbyworth.scopes import Scope
from kindsbyworth.steps import shape_terms, walked
from kindsbyworth.terms import is_open


class Wrong(Exception):
    pass


def sure(test):
    if not test:
        raise Wrong


def told(thing, many):
    sure(isinstance(thing, tuple) and len(thing) == many)
    return thing


def is_number(thing):
    return isinstance(thing, int) and not isinstance(thing, bool) and thing >= 0


def is_unsolved(names, number):
    return 0 <= number < len(names.told) and number not in names.solved


def goes_to(scope, term, way):
    found = walked(scope, term, way)
    sure(found is not None)
    return found


def world_told(reader, kind, pair, around):
    told(pair, 2)
    number = world_by(reader, told_by(reader, kind, pair[0], around, "gone"), pair[1])
    sure(number is not None)
    return number


def check_telescope(reader, telescope, thing, around):
    told(thing, len(telescope))
    for pair, one in zip(telescope, thing):
        world_told(reader, pair[1], one, around)
        around = around + (pair,)


def params_of(family, further):
    many = len(family[2])
    return tuple(("at", further + many - 1 - at) for at in range(many))


def check_family(scope, family, thing):
    params, indexes, shapes = told(thing, 3)
    reader = Reader(scope, {})
    check_telescope(reader, family[2], params, ())
    check_telescope(reader, family[3], indexes, family[2])
    told(shapes, len(family[5]))
    inner = Reader(scope.with_item(family), {})
    for (name, arguments, ends), (of_arguments, of_ends) in zip(family[5], [told(one, 2) for one in shapes]):
        told(of_arguments, len(arguments))
        told(of_ends, len(ends))
        around = family[2]
        for k, (pair, one) in enumerate(zip(arguments, of_arguments)):
            paper, way, held = told(one, 3)
            sure(world_told(inner, pair[1], (paper, way), around) <= family[4])
            sure(is_held_well(family, goes_to(inner.scope, pair[1], held), k))
            around = around + (pair,)
        for j, (end, one) in enumerate(zip(ends, of_ends)):
            wanted = put_in(family[3][j][1], params_of(family, len(arguments)) + ends[:j])
            sure(fits_by(inner, end, wanted, one, around, "gone"))
            sure(not has_family(end, family[1]))


class Moves:
    """Equations that go as moves tell, one by one."""

    def __init__(self, scope, names, left):
        self.scope = scope
        self.names = names
        self.left = left

    def do(self, moves):
        sure(isinstance(moves, tuple))
        for at, move in enumerate(moves):
            sure(isinstance(move, tuple) and len(move) > 0 and len(self.left) > 0)
            one, other = [self.names.put(side) for side in self.left[0]]
            if move == ("never",):
                sure(at == len(moves) - 1 and one[0] == other[0] == "shape" and one[1] == other[1])
                sure(one[2] != other[2])
                return "never"
            self.one_move(move, one, other)
        return "done"

    def one_move(self, move, one, other):
        rest = self.left[1:]
        if move == ("same",):
            sure(one == other)
            self.left = rest
        elif move == ("later",):
            self.left = rest + [(one, other)]
        elif move == ("peel",):
            sure(one[0] == other[0] == "shape" and one[1:3] == other[1:3] and len(one[3]) == len(other[3]))
            self.left = list(zip(one[3], other[3])) + rest
        elif move[0] == "walk":
            told(move, 3)
            self.left = [(goes_to(self.scope, one, move[1]), goes_to(self.scope, other, move[2]))] + rest
        else:
            sure(len(move) == 2 and move[0] == "solve" and is_number(move[1]) and move[1] < 2)
            self.solve(*((one, other) if move[1] == 0 else (other, one)))

    def solve(self, name, by):
        sure(name[0] == "at")
        number = number_of(name[1], 0)
        sure(is_unsolved(self.names, number) and self.names.told[number][2] and not is_open(by, name[1]))
        self.names.solve(number, by)


class RowCheck:
    def __init__(self, scope, asks):
        self.scope = scope
        self.asks = list(asks)
        self.names = Names(Bench(scope, 1), False)
        self.moves = Moves(scope, self.names, [])
        self.takes = []

    def places(self, patterns, telescope, ahead):
        terms = ahead
        sure(len(patterns) == len(telescope))
        for pattern, (mark, kind) in zip(patterns, telescope):
            terms = terms + (self.place(pattern, mark, put_in(kind, terms)),)
        return terms[len(ahead):]

    def place(self, pattern, mark, kind):
        if pattern[0] != "shape":
            if pattern[0] == "take":
                self.takes.append(len(self.names.told))
            return self.names.named(mark, kind, pattern[0] == "due")
        sure(mark == "run" and self.asks)
        way, moves = told(self.asks.pop(0), 2)
        head = goes_to(self.scope, self.names.put(kind), way)
        sure(head[0] == "family")
        family = self.scope.item_of(head[1])
        shape = [one for one in family[5] if one[0] == pattern[1]]
        sure(shape)
        many = len(family[2])
        terms = head[2][:many] + self.places(pattern[2], shape[0][1], head[2][:many])
        self.moves.left = self.moves.left + [(index, put_in(end, terms))
                                             for index, end in zip(head[2][many:], shape[0][2])]
        sure(self.moves.do(moves) == "done")
        return ("shape", head[1], pattern[1], terms)


def check_row(reader, definition, row, thing):
    patterns, body = row
    asks, ways, fit = told(thing, 3)
    sure(isinstance(asks, tuple))
    check = RowCheck(reader.scope, asks)
    terms = check.places(patterns, definition[1], ())
    names = check.names
    sure(not check.asks and not check.moves.left)
    sure(all(number in names.solved for number in range(len(names.told)) if names.told[number][2]))
    told(ways, len(check.takes))
    around = ()
    for at, (number, way) in enumerate(zip(check.takes, ways)):
        kind = goes_to(reader.scope, names.kind(number), way)
        sure(is_of_takes(kind, check.takes[:at]))
        around = around + ((names.told[number][0], in_takes(kind, check.takes[:at])),)
    wanted = in_takes(put_in(definition[2], tuple(names.put(term) for term in terms)), check.takes)
    sure(fits_by(reader, body, wanted, fit, around, "run"))


def asks_first(scope, names, patterns, terms):
    left = list(zip(patterns, terms))
    while left:
        pattern, term = left.pop(0)
        if pattern[0] != "shape":
            continue
        term = names.put(term)
        if term[0] == "at":
            return "asks", number_of(term[1], 0)
        within = shape_terms(scope, term)
        sure(within is not None)
        if term[2] != pattern[1]:
            return "passes", None
        left = list(zip(pattern[2], within)) + left
    return "takes", None


def check_split(scope, names, number, way, branches):
    """Names behind each shape of a split, None where its moves end in never."""
    head = goes_to(scope, names.kind(number), way)
    sure(head[0] == "family")
    family = scope.item_of(head[1])
    many = len(family[2])
    told(branches, len(family[5]))
    found = []
    for shape, moves in zip(family[5], branches):
        made = names.twin()
        terms = head[2][:many]
        for mark, kind in shape[1]:
            own = "gone" if "gone" in (mark, names.told[number][0]) else "run"
            terms = terms + (made.named(own, put_in(kind, terms), True),)
        made.solve(number, ("shape", head[1], shape[0], terms))
        go = Moves(scope, made, [(index, put_in(end, terms)) for index, end in zip(head[2][many:], shape[2])])
        done = go.do(moves)
        sure(done == "never" or not go.left)
        found.append(None if done == "never" else made)
    return found


def check_tree(scope, definition, names, terms, tree, used):
    sure(isinstance(tree, tuple) and tree)
    first = []
    for row, (patterns, body) in enumerate(definition[4]):
        word = asks_first(scope, names, patterns, terms)
        if word[0] != "passes":
            first = [(word, row)]
            break
    if tree[0] == "row":
        told(tree, 2)
        sure(is_number(tree[1]) and first == [(("takes", None), tree[1])])
        used.append(tree[1])
    elif tree[0] == "ask":
        told(tree, 3)
        sure(first and first[0][0][0] == "asks")
        sure(isinstance(tree[2], tuple))
        pairs = [told(one, 2) for one in tree[2]]
        found = check_split(scope, names, first[0][0][1], tree[1], tuple(one[0] for one in pairs))
        for made, (moves, inner) in zip(found, pairs):
            sure((inner is None) == (made is None))
            if made is not None:
                check_tree(scope, definition, made, terms, inner, used)
    else:
        told(tree, 4)
        sure(tree[0] == "empty" and not first and is_number(tree[1]))
        sure(is_unsolved(names, tree[1]) and names.told[tree[1]][0] == "run")
        sure(not [made for made in check_split(scope, names, tree[1], tree[2], tree[3]) if made is not None])


def check_definition(reader, outer, definition, thing):
    telescope, result, number, rows, tree = told(thing, 5)
    check_telescope(outer, definition[1], telescope, ())
    world_told(outer, definition[2], result, definition[1])
    sure(is_number(number))
    told(rows, len(definition[4]))
    for row, one in zip(definition[4], rows):
        check_row(reader, definition, row, one)
    names, terms = Names(Bench(reader.scope, 1), True), ()
    for mark, kind in definition[1]:
        terms = terms + (names.named(mark, put_in(kind, terms), True),)
    used = []
    check_tree(reader.scope, definition, names, terms, tree, used)
    sure(sorted(set(used)) == list(range(len(definition[4]))))


def check_lot(scope, lot, thing, opens):
    told(thing, len(lot[1]))
    waiting = ("lot", tuple(definition[:4] + ((),) for definition in lot[1]))
    reader = Reader(Scope(scope.all_items + (waiting,) + opens), {item[1]: item for item in opens})
    for definition, one in zip(lot[1], thing):
        check_definition(reader, Reader(scope, {}), definition, one)
    numbers = {definition[0]: one[2] for definition, one in zip(lot[1], thing)}
    for caller, row, called, word in calls_of(lot[1]):
        sure(word == "falls" or (word == "stays" and numbers[called] < numbers[caller]))


def is_paper(scope, item, thing):
    """Whether it is a paper of the item, of one with holes of the lifted lot by its open ones."""
    try:
        if item[0] == "family":
            check_family(scope, item, thing)
        else:
            check_lot(scope, lifted(item), thing, opened(wishes(scope, item)))
    except Wrong:
        return False
    return True

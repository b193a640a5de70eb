"""Scopes: items whose names are all unlike."""

from kindsbyworth.errors import NoItem, NoName, Taken
from kindsbyworth.items import is_item, is_open_item, names_of
from kindsbyworth.sameness import are_same


def is_of_scope(thing):
    """Whether a Scope may have it, of anything."""
    return is_item(thing) or is_open_item(thing)


class Scope:
    """Items in order; it never changes, but for what it keeps of what was told of them (wanted, measured)."""

    def __init__(self, items=()):
        if not isinstance(items, tuple):
            raise NoItem("a tuple of items is wanted")
        if not all([is_of_scope(item) for item in items]):
            raise NoItem("one of these is no item")
        self.all_items = items
        self.homes = {}
        self.families = {}
        self.definitions = {}
        self.shapes = {}
        self.wanted = {}
        self.measured = {}
        for item in items:
            self._take_in(item)

    def _take_in(self, item):
        for name in names_of(item):
            if name in self.homes:
                raise Taken(name)
            self.homes[name] = item
        if item[0] == "family":
            self.families[item[1]] = item
            for shape in item[5]:
                self.shapes[(item[1], shape[0])] = (len(item[2]), len(shape[1]))
        if item[0] == "lot":
            for definition in item[1]:
                self.definitions[definition[0]] = definition

    def __eq__(self, other):
        if not isinstance(other, Scope):
            return NotImplemented
        return are_same(self.all_items, other.all_items)

    def __len__(self):
        return len(self.homes)

    def item_of(self, name):
        """The item that has this name; NoName of anything else."""
        if not isinstance(name, str) or name not in self.homes:
            raise NoName(name)
        return self.homes[name]

    def with_item(self, item):
        """A Scope with one item more; those that are here were told to be items."""
        if not is_of_scope(item):
            raise NoItem("this is no item")
        return self.grown((item,))

    def grown(self, items):
        """A Scope with these more, each of which is known to be an item."""
        made = Scope()
        made.all_items = self.all_items + items
        made.homes = dict(self.homes)
        made.families = dict(self.families)
        made.definitions = dict(self.definitions)
        made.shapes = {pair: self.shapes[pair] for pair in self.shapes}
        made.wanted = {key: self.wanted[key] for key in self.wanted}
        made.measured = {pair: self.measured[pair] for pair in self.measured}
        for item in items:
            made._take_in(item)
        return made

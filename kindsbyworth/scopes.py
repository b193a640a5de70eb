"""Scopes: items whose names are all unlike."""

from kindsbyworth.errors import NoItem, NoName, Taken
from kindsbyworth.items import is_item, is_open_item, names_of
from kindsbyworth.sameness import are_same


def homes_of(items):
    """A dict from each name to its item; Taken of the first name that was there."""
    homes = {}
    for item in items:
        for name in names_of(item):
            if name in homes:
                raise Taken(name)
            homes[name] = item
    return homes


class Scope:
    """Items in order; it never changes."""

    def __init__(self, items=()):
        if not isinstance(items, tuple):
            raise NoItem("a tuple of items is wanted")
        if not all([is_item(item) or is_open_item(item) for item in items]):
            raise NoItem("one of these is no item")
        self.all_items = items
        self._homes = homes_of(items)

    def __eq__(self, other):
        if not isinstance(other, Scope):
            return NotImplemented
        return are_same(self.all_items, other.all_items)

    def __len__(self):
        return len(self._homes)

    def item_of(self, name):
        """The item that has this name; NoName of anything else."""
        if not isinstance(name, str) or name not in self._homes:
            raise NoName(name)
        return self._homes[name]

    def with_item(self, item):
        """A Scope with one item more."""
        return Scope(self.all_items + (item,))

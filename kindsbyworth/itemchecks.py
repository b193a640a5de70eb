"""What papers tell of items, whoever wrote them."""

from kindsbyworth.itemreading import item_by


def paper_holds(scope, item, thing):
    """Whether it is a paper of the item, of anything."""
    return item_by(scope, item, thing) is not None

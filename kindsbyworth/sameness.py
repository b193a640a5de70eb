"""Whether two things made of tuples are the same, however deep."""


def are_same(one, other):
    """Whether they are the same; Python's own comparing nests, and may so fail on deep ones."""
    left = [(one, other)]
    while left:
        first, second = left.pop()
        if not isinstance(first, tuple) or not isinstance(second, tuple):
            if first != second:
                return False
        elif len(first) != len(second):
            return False
        else:
            left.extend(list(zip(first, second)))
    return True

"""Whether two things made of tuples are the same, however deep."""


def are_same(one, other):
    """Whether they are the same; Python's own comparing nests, and may so fail on deep ones."""
    left = [((one,), (other,))]
    while left:
        first, second = left.pop()
        if len(first) != len(second):
            return False
        for here, there in zip(first, second):
            if not isinstance(here, tuple) or not isinstance(there, tuple):
                if here != there:
                    return False
            elif here and there:
                left.append((here, there))
            elif here or there:
                return False
    return True

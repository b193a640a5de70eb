"""Whether two things made of tuples are the same, however deep.

Python's own comparing nests, and may so fail on deep things; so it compares
here only what has no parts, or such parts as have none.
"""


def are_same(one, other):
    """Whether they are the same, of any tuples."""
    left = [((one,), (other,))]
    while left:
        first, second = left.pop()
        if len(first) != len(second):
            return False
        for here, there in zip(first, second):
            if not isinstance(here, tuple) or not isinstance(there, tuple):
                if here != there:
                    return False
            elif here and there:
                left.append((here, there))
            elif here or there:
                return False
    return True


def are_same_terms(one, other):
    """Whether two terms are the same; as are_same, but faster."""
    if len(one) == 2 or not one[-1]:
        return one == other
    left = [(one, other)]
    while left:
        here, there = left.pop()
        many = len(here)
        if many == 2 or not here[-1]:
            if here != there:
                return False
        elif many != len(there):
            return False
        elif many == 3 or here[0] == "shape":
            parts, others = here[-1], there[-1]
            if here[:-1] != there[:-1] or len(parts) != len(others):
                return False
            if len(parts) == 1:
                left.append((parts[0], others[0]))
            else:
                left.extend(list(zip(parts, others)))
        elif here[:2] != there[:2]:
            return False
        else:
            left.append((here[2], there[2]))
            left.append((here[3], there[3]))
    return True

"""Tasks within tasks, done by a stack: so however deep they lie."""


def done(task):
    """What a task is told of.

    Its go is handed what its inner task ahead is told of (at first None), and
    tells its next inner task; None behind the last, where its told is set.
    """
    left = [task]
    told = None
    while left:
        inner = left[-1].go(told)
        if inner is None:
            told = left.pop().told
        else:
            left.append(inner)
            told = None
    return told

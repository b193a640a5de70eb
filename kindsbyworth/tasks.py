"""Tasks within tasks, however deep they lie: calls nest only so far, and what lies deeper is done by itself."""

# So many terms within one another are gone down by calls: more than stand in what steps may make.
NESTING = 60


class Deeper(Exception):
    """A task lies too deep for calls to nest: it is to be done first, by itself."""

    def __init__(self, task):
        self.task = task


class Tasks:
    """Tasks that call one another, and what was told of those that lay too deep.

    A task that comes to too deep ones is done again from its start when these
    are told; as it comes to them in the same order each time, what was told
    of them is kept in this order.
    """

    def __init__(self):
        self.known = []
        self.used = 0

    def deeper(self, task):
        """What is told of a task that lies too deep, if it is done; else Deeper."""
        if self.used == len(self.known):
            raise Deeper(task)
        self.used = self.used + 1
        return self.known[self.used - 1]

    def done(self, task, do):
        """What do(task, left) tells; left is how much deeper calls may nest."""
        left = [(task, [])]
        while True:
            here, self.known = left[-1]
            self.used = 0
            try:
                told = do(here, NESTING)
            except Deeper as deeper:
                left.append((deeper.task, []))
                continue
            left.pop()
            if not left:
                return told
            left[-1][1].append(told)

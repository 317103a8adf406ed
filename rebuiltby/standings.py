"""Standings: the right number and the wrong number of a claim together."""

from rebuiltby.claimnumbers import right_of, wrong_of
from rebuiltby.helper import need_number


class Standing:
    """A pair of a right number and a wrong number, which never changes."""

    def __init__(self, right, wrong):
        need_number("right", right)
        need_number("wrong", wrong)
        self.right = right
        self.wrong = wrong

    @property
    def base(self):
        """The lesser one of the two numbers."""
        return self.right if self.right < self.wrong else self.wrong

    def __call__(self, budget):
        need_number("budget", budget)
        if self.base > budget:
            return "none"
        if self.wrong > budget:
            return "right"
        return "wrong" if self.right > budget else "open"

    def __neg__(self):
        return Standing(self.wrong, self.right)

    def __add__(self, other):
        need_number("other", other)
        return Standing(self.right + other, self.wrong + other)

    def __radd__(self, other):
        return self + other

    def __le__(self, other):
        if not isinstance(other, Standing):
            return NotImplemented
        return self.right <= other.right and self.wrong <= other.wrong

    def __eq__(self, other):
        return isinstance(other, Standing) and self.right == other.right and self.wrong == other.wrong

    def __str__(self):
        return f"right {self.right}, wrong {self.wrong}"

    @staticmethod
    def open_at(n):
        """Return the Standing in which both numbers are n."""
        need_number("n", n)
        return Standing(n, n)


def standing_of(book, file, source):
    """Return the Standing of the right number and the wrong number of the claim."""
    right = right_of(book, file, source)
    return Standing(right, wrong_of(book, file, source))

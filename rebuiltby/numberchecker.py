"""The checker of papers that show the numbers of a book."""

from rebuiltby.bookparts import weight_of
from rebuiltby.claimnumbers import others_of, terms_of
from rebuiltby.errors import InvalidPaper
from rebuiltby.helper import ascending, is_parties
from rebuiltby.kinds import is_row
from rebuiltby.stepchecker import lets_steps
from rebuiltby.tablechecker import check_table


def lets_number(book, what, thing, *, file=None, source=None):
    """Return the number that a number paper of the base, or of the claim, shows."""
    terms = terms_of(book, what, file, source)
    if not is_row(thing, 3):
        raise InvalidPaper("shape", -1)
    bad, table, tree = thing
    if not is_parties(book, bad):
        raise InvalidPaper("bad", -1)
    check_table(book, others_of(book, bad), table, terms[0])
    if any([fact in table for fact in terms[1]]):
        raise InvalidPaper("claim", -1)
    number = weight_of(book, bad)
    check_node(book, terms, number, tree, ())
    return number


def check_node(book, terms, number, node, path):
    """Check the node with this path, and all that is below it."""
    if weight_of(book, ascending(list(path))) >= number:
        if node != ():
            raise InvalidPaper("heavy", path)
        return
    if not is_row(node, 2):
        raise InvalidPaper("heavy", path)
    steps, branches = node
    parties = parties_of(book, terms, steps, path)
    if not isinstance(branches, tuple) or not all([is_row(branch, 2) for branch in branches]):
        raise InvalidPaper("branches", path)
    if tuple([branch[0] for branch in branches]) != parties:
        raise InvalidPaper("branches", path)
    for name, below in branches:
        check_node(book, terms, number, below, (*path, name))


def parties_of(book, terms, steps, path):
    """Check the steps of the node with this path, and return the set of their parties."""
    supposed, unshown = terms
    try:
        shown, parties = lets_steps(book, steps, supposed=supposed)
    except InvalidPaper:
        raise InvalidPaper("steps", path) from None
    if shown != () and shown not in unshown:
        raise InvalidPaper("target", path)
    if any([name in path for name in parties]):
        raise InvalidPaper("used", path)
    return parties

"""Papers that show the numbers of a book."""

from rebuiltby.bookparts import weight_of
from rebuiltby.claimnumbers import others_of, terms_of
from rebuiltby.closing import reasons_of
from rebuiltby.helper import ascending
from rebuiltby.leastsets import least_bad
from rebuiltby.stepchecker import lets_steps
from rebuiltby.stepsmaking import steps_to, steps_to_clash


def number_paper(book, what, *, file=None, source=None):
    """Return a number paper of the base, or of the wrong or the right number of the claim."""
    terms = terms_of(book, what, file, source)
    bad = lightest(book, least_bad(book, terms[0], terms[1]))
    table = ascending(list(reasons_of(book, others_of(book, bad), terms[0])))
    return bad, table, tree_at(book, terms, weight_of(book, bad), ())


def lightest(book, sets):
    """Return the first one of the sets that have the least weight."""
    found = sets[0]
    for parties in sets:
        if weight_of(book, parties) < weight_of(book, found):
            found = parties
    return found


def tree_at(book, terms, number, path):
    """Return the node with this path of the tree that shows that the number is not less."""
    if weight_of(book, ascending(list(path))) >= number:
        return ()
    steps = steps_against(book, terms, others_of(book, path))
    parties = lets_steps(book, steps, supposed=terms[0])[1]
    return steps, tuple([(name, tree_at(book, terms, number, (*path, name))) for name in parties])


def steps_against(book, terms, trusted):
    """Return steps of trusted parties to a clash or to the unshown claim; there are such steps."""
    supposed, unshown = terms
    for file, source in unshown:
        steps = steps_to(book, trusted, file, source)
        if steps is not None:
            return steps
    return steps_to_clash(book, trusted, supposed=supposed)

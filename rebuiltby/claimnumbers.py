"""The least weights of parties that must be bad: of a book, and if a claim is wrong or right."""

from rebuiltby.closing import clashes_with, reasons_of
from rebuiltby.errors import NotUsable
from rebuiltby.helper import names_of, need_name, need_source


def base_of(book):
    """Return the base of the book."""
    return least_weight(book, (), ())


def wrong_of(book, file, source):
    """Return the wrong number of the claim."""
    check_claim(book, file, source)
    return least_weight(book, (), ((file, source),))


def right_of(book, file, source):
    """Return the right number of the claim."""
    check_claim(book, file, source)
    return least_weight(book, ((file, source),), ())


def check_claim(book, file, source):
    """Check the file and the source of a claim."""
    need_name("file", file)
    need_source("source", book, source)


def terms_of(book, what, file, source):
    """Return the supposed and the unshown facts of the number that what names."""
    if what not in ("base", "wrong", "right"):
        raise NotUsable("what", -1)
    if what == "base":
        return (), ()
    check_claim(book, file, source)
    claim = (file, source)
    return ((), (claim,)) if what == "wrong" else ((claim,), ())


def least_weight(book, supposed, unshown):
    """Return the least weight of parties without which the others are as can_trust wants them."""
    # Without all parties nothing but one supposed fact is left, and this makes no clash.
    least = sum([weight for _, weight in book[1]])
    for bad in party_sets(book):
        weight = sum([weight for name, weight in book[1] if name in bad])
        if weight < least and can_trust(book, others_of(book, bad), supposed, unshown):
            least = weight
    return least


def can_trust(book, trusted, supposed, unshown):
    """Tell whether the parties, with the supposed facts, are calm and show none of the unshown ones."""
    reasons = reasons_of(book, trusted, supposed)
    if not all([fact not in reasons for fact in unshown]):
        return False
    return not clashes_with(book, trusted, reasons)


def party_sets(book):
    """Return all sets of parties of the book, as a list."""
    sets = [()]
    for name, _ in book[1]:
        sets = sets + [(*rest, name) for rest in sets]
    return sets


def others_of(book, parties):
    """Return the set of the parties of the book that are not among these."""
    return tuple([name for name in names_of(book[1]) if name not in parties])

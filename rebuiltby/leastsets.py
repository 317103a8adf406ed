"""The least sets of parties that must be bad, or that show something if they are trusted."""

from rebuiltby.claimnumbers import can_trust, check_claim, others_of, party_sets
from rebuiltby.helper import ascending


def bad_sets(book):
    """Return the set of all least bad sets."""
    return least_bad(book, (), ())


def wrong_sets(book, file, source):
    """Return the set of all least bad sets without which the others do not show the claim."""
    check_claim(book, file, source)
    return least_bad(book, (), ((file, source),))


def right_sets(book, file, source):
    """Return the set of all least sets without which the others, with the claim supposed, are calm."""
    check_claim(book, file, source)
    return least_bad(book, ((file, source),), ())


def supports(book, file, source):
    """Return the set of all least trusted sets that show the claim or have a clash."""
    check_claim(book, file, source)
    return least_trusted(book, ((file, source),))


def clash_sets(book):
    """Return the set of all least trusted sets that have a clash."""
    return least_trusted(book, ())


def least_bad(book, supposed, unshown):
    """Return the set of the least sets without which the others are as can_trust wants them."""
    found = []
    for parties in party_sets(book):
        if not includes_some(parties, found) and can_trust(book, others_of(book, parties), supposed, unshown):
            found.append(parties)
    return ascending(found)


def least_trusted(book, unshown):
    """Return the set of the least sets that are not as can_trust wants them."""
    found = []
    for parties in party_sets(book):
        if not includes_some(parties, found) and not can_trust(book, parties, (), unshown):
            found.append(parties)
    return ascending(found)


def includes_some(parties, sets):
    """Tell whether a set includes one of the sets."""
    # party_sets has each set behind those that it includes, so a set that includes none of those
    # found before is a least one.
    return any([all([name in parties for name in names]) for names in sets])

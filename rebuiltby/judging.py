"""What is sure as long as the bad parties weigh no more than a budget."""

from rebuiltby.bookparts import weight_of
from rebuiltby.claimnumbers import can_trust, others_of, party_sets
from rebuiltby.closing import reasons_of
from rebuiltby.helper import ascending, names_of, need_number
from rebuiltby.standings import standing_of


def verdict(book, file, source, budget):
    """Return the verdict of the claim at the budget."""
    standing = standing_of(book, file, source)
    return standing(budget)


def sure_facts(book, budget):
    """Return the set of the claims with the verdict right at the budget."""
    # A claim is right if the others show it without each of the bad sets; the first set will do
    # to find the claims.
    bad_sets = bad_within(book, budget)
    shown = [reasons_of(book, others_of(book, bad), ()) for bad in bad_sets]
    if not shown:
        return ()
    return ascending([fact for fact in shown[0] if all([fact in facts for facts in shown])])


def suspects(book, budget):
    """Return the set of the parties that are in each bad set of the budget."""
    bad_sets = bad_within(book, budget)
    if not bad_sets:
        return ()
    return tuple([name for name in names_of(book[1]) if all([name in bad for bad in bad_sets])])


def cleared(book, budget):
    """Return the set of the parties that are in no bad set of the budget."""
    bad_sets = bad_within(book, budget)
    if not bad_sets:
        return ()
    return tuple([name for name in names_of(book[1]) if not any([name in bad for bad in bad_sets])])


def bad_within(book, budget):
    """Return all bad sets of which the weight is at most the budget, as a list."""
    need_number("budget", budget)
    sets = [parties for parties in party_sets(book) if weight_of(book, parties) <= budget]
    return [parties for parties in sets if can_trust(book, others_of(book, parties), (), ())]

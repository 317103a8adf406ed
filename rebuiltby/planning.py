"""Plans: further builds after which a claim has a wrong number above a budget."""

from rebuiltby.bookparts import weight_of
from rebuiltby.claimnumbers import others_of, party_sets, wrong_of
from rebuiltby.helper import need_number
from rebuiltby.orderkinds import is_order
from rebuiltby.ordering import facts_if_open, with_file
from rebuiltby.rounds import check_claim_in, without_orders
from rebuiltby.stepchecker import builds_in
from rebuiltby.stepsmaking import steps_to


def plan_to(book, file, source, budget):
    """Return a plan for the claim and the budget, None if the sure number is not above the budget."""
    facts = facts_if_open(book)
    check_claim_in(book, file, source)
    need_number("budget", budget)
    full = without_orders(book, facts)
    if wrong_of(full, file, source) <= budget:
        return None
    builds = builds_for(book, full, (file, source), budget)
    plan = builds
    # With fewer builds none becomes idle that was not, so one look at each of them is enough.
    for build in builds:
        rest = added_without(book, facts, plan, build)
        if wrong_of(rest, file, source) > budget:
            plan = rest[3][len(book[3]):]
    return plan


def builds_for(book, full, claim, budget):
    """Return the builds of the full book alone by which those show the claim who are left by a budget."""
    found = {}
    for bad in party_sets(book):
        if weight_of(book, bad) <= budget:
            # Steps rest on earlier ones only, so each build can be ordered after those found before.
            for step in steps_to(full, others_of(book, bad), claim[0], claim[1]):
                for k in builds_in(step):
                    found[full[3][k]] = True
    return tuple([build for build in found if build not in book[3]])


def added_without(book, facts, plan, idle):
    """Return the book with the builds of the plan but one, each only if it can be ordered then."""
    for build in plan:
        if build != idle and is_order(book, facts, build[:4]):
            book, facts = with_file(book, facts, build)
    return book

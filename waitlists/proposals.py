"""Proposed waitlists: which pairs they miss, and which they do not need (point 21)."""

from waitlists.errors import InvalidProposal
from waitlists.lists import waitlist_in
from waitlists.needs import build_needing_run
from waitlists.order import check_causal
from waitlists.runs import check_node, find_pair, is_ascending


def missing_pairs(nodes, run, node, proposal):
    """Return the ascending list of the pairs of the waitlist of the node that are not in the proposal."""
    history = _check_proposed(nodes, run, node, proposal)
    return _pairs_without(waitlist_in(history, history.last_pasts[node]), proposal)


def spare_pairs(nodes, run, node, proposal):
    """Return the ascending list of the pairs of the proposal that are not in the waitlist of the node."""
    history = _check_proposed(nodes, run, node, proposal)
    return _pairs_without(proposal, waitlist_in(history, history.last_pasts[node]))


def harmful_run(nodes, run, node, proposal):
    """Return a needing run for the least missing pair, or None if no pair is missing."""
    history = _check_proposed(nodes, run, node, proposal)
    waitlist = waitlist_in(history, history.last_pasts[node])
    missing = _pairs_without(waitlist, proposal)
    if not missing:
        return None
    return build_needing_run(history, node, missing[0], waitlist)


def _check_proposed(nodes, run, node, proposal):
    """Return the history of the run.

    Raise InvalidNodes, InvalidRun, NotCausal, UnknownNode, then InvalidProposal if the value is not a proposal.
    """
    history = check_causal(nodes, run)
    check_node(nodes, node)
    if not _is_proposal(history, proposal):
        raise InvalidProposal("a proposal is a list of pairs of the run in ascending order without duplicates")
    return history


def _is_proposal(history, value):
    """Return whether any value is a proposal."""
    if not isinstance(value, list):
        return False
    for entry in value:
        if find_pair(history.sends, history.run, entry) is None:
            return False
    return is_ascending(value)


def _pairs_without(pairs, others):
    """Return the pairs that are not among the others, in their order."""
    left_out = set(others)
    return [pair for pair in pairs if pair not in left_out]

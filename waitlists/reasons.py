"""Reasons why a pair is not in the waitlist of a node (point 20)."""

from waitlists.errors import Needed
from waitlists.history import events_in
from waitlists.lists import waitlist_in
from waitlists.order import check_causal, find_path, is_path_of
from waitlists.runs import check_node, check_pair, find_send


def reason_for(nodes, run, node, pair):
    """Return a reason why the pair is not in the waitlist of the node: the first kind that applies."""
    history, sent = _check_not_needed(nodes, run, node, pair)
    receiver = pair[1]
    past = history.last_pasts[node]
    if not past >> sent & 1:
        return ("unknown",)
    last = history.last_event(node)
    opened = history.opens[receiver].get(sent)
    if opened is not None and past >> opened & 1:
        return ("opened", find_path(history, opened, last))
    other = _first_cover(history, past, sent, receiver)
    return ("covered", history.message_at(other), find_path(history, sent, other), find_path(history, other, last))


def is_reason(nodes, run, node, pair, value):
    """Return whether any value is a reason why the pair is not in the waitlist of the node."""
    history, sent = _check_not_needed(nodes, run, node, pair)
    if not isinstance(value, tuple) or not value:
        return False
    if value[0] == "unknown":
        return len(value) == 1 and not history.last_pasts[node] >> sent & 1
    # For a node without events this is -1, to which no path leads.
    last = history.last_event(node)
    if value[0] == "opened" and len(value) == 2:
        opened = history.opens[pair[1]].get(sent)
        return opened is not None and _leads(history, value[1], opened, last)
    if value[0] == "covered" and len(value) == 4:
        other = find_send(history.sends, value[1])
        if other is None or other == sent or pair[1] not in run[other][2]:
            return False
        return _leads(history, value[2], sent, other) and _leads(history, value[3], other, last)
    return False


def _check_not_needed(nodes, run, node, pair):
    """Return the history of the run, and the index of the send of the message of the pair.

    Raise InvalidNodes, InvalidRun, NotCausal, UnknownNode, InvalidPair, then Needed if the pair is in the
    waitlist of the node.
    """
    history = check_causal(nodes, run)
    check_node(nodes, node)
    sent = check_pair(history.sends, run, pair)
    if pair in waitlist_in(history, history.last_pasts[node]):
        raise Needed("the waitlist of the node contains this pair")
    return (history, sent)


def _first_cover(history, past, sent, receiver):
    """Return the first send to the receiver in the past, a mask, that the send happens before; there is one."""
    for index in events_in(past):
        kind, _, detail = history.run[index]
        if kind == "send" and receiver in detail and history.precedes(sent, index):
            return index
    return None


def _leads(history, value, first, last):
    """Return whether any value is a path of the run from one event to the other."""
    return is_path_of(history.run, history.opens, value) and value[0] == first and value[-1] == last

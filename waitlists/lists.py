"""Counts, waitlists and labels of the nodes of a causal run (points 12 and 13)."""

from waitlists.history import History
from waitlists.order import check_causal
from waitlists.runs import check_message, check_node, send_indices


def known_counts(nodes, run, node):
    """Return the counts of the node."""
    check_causal(nodes, run)
    check_node(nodes, node)
    return counts_at(History(nodes, run), node)


def waitlist_of(nodes, run, node):
    """Return the waitlist of the node."""
    check_causal(nodes, run)
    check_node(nodes, node)
    return waitlist_at(History(nodes, run), node)


def label_of_message(nodes, run, message):
    """Return the label that the message carries."""
    check_causal(nodes, run)
    check_message(nodes, run, message)
    sender = message[0]
    history = History(nodes, run[:send_indices(run)[message]])
    return (counts_at(history, sender), waitlist_at(history, sender))


def counts_at(history, node):
    """Return a dict from each node to how many of its messages the given node knows."""
    counts = {sender: 0 for sender in history.nodes}
    for (sender, _), index in history.sends.items():
        if history.is_past(index, node):
            counts[sender] += 1
    return counts


def waitlist_at(history, node):
    """Return the waitlist of the node in the run of the history."""
    pairs = []
    for receiver in history.nodes:
        sends = _last_known_sends(history, node, receiver)
        for index in sends:
            message = history.messages[index]
            if not _knows_open(history, node, message, receiver) and not _is_covered(history, index, sends):
                pairs.append((message, receiver))
    return sorted(pairs)


def _last_known_sends(history, node, receiver):
    """Return the indices of the sends to the receiver that the node knows, only the last one of each sender.

    The earlier ones of a sender happen before its last one, so none of them is in the waitlist.
    Whatever happens before one of them happens before the last one, too.
    """
    last = {}
    for (sender, _), index in history.sends.items():
        if receiver in history.run[index][2] and history.is_past(index, node):
            last[sender] = index
    return list(last.values())


def _knows_open(history, node, message, receiver):
    """Return whether the open of the message by the receiver is in the past of the node."""
    index = history.opens.get((message, receiver))
    return index is not None and history.is_past(index, node)


def _is_covered(history, index, sends):
    """Return whether the send with this index happens before one of these sends."""
    return any(history.precedes(index, later) for later in sends)

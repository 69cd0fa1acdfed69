"""Counts, waitlists and labels of the nodes of a causal run (points 12 and 13)."""

from waitlists.order import check_causal
from waitlists.runs import check_message, check_node


def known_counts(nodes, run, node):
    """Return the counts of the node."""
    history = check_causal(nodes, run)
    check_node(nodes, node)
    return counts_in(history, history.last_pasts[node])


def waitlist_of(nodes, run, node):
    """Return the waitlist of the node."""
    history = check_causal(nodes, run)
    check_node(nodes, node)
    return waitlist_in(history, history.last_pasts[node])


def label_of_message(nodes, run, message):
    """Return the label that the message carries."""
    history = check_causal(nodes, run)
    past = history.past_before(check_message(history.sends, message))
    return (counts_in(history, past), waitlist_in(history, past))


def counts_in(history, past):
    """Return a dict from each node to how many of its sends are in the past of a node, a mask."""
    return {node: sum([past >> index & 1 for index in history.sends[node]]) for node in history.nodes}


def waitlist_in(history, past):
    """Return the waitlist of a node with this past, a mask."""
    entries = _last_sends(history, past)
    covered = {node: 0 for node in history.nodes}
    for _, index, receiver in entries:
        covered[receiver] |= history.past_before(index)
    pairs = []
    for message, index, receiver in entries:
        opened = history.opens[receiver].get(index)
        if not covered[receiver] >> index & 1 and (opened is None or not past >> opened & 1):
            pairs.append((message, receiver))
    return sorted(pairs)


def _last_sends(history, past):
    """Return (message, index of its send, receiver) of the last message in the past of each sender to each receiver.

    The earlier ones of a sender happen before its last one, so none of them is in the waitlist.
    Whatever happens before one of them happens before the last one, too.
    """
    entries = []
    for sender, count in counts_in(history, past).items():
        done = {}
        number = count
        while number > 0 and len(done) < len(history.nodes) - 1:
            index = history.sends[sender][number - 1]
            for receiver in history.run[index][2]:
                if receiver not in done:
                    done[receiver] = True
                    entries.append(((sender, number), index, receiver))
            number -= 1
    return entries

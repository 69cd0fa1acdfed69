"""Labels without a run: how a send and an open change the label of a node (points 13 and 17)."""

from waitlists.errors import InvalidLabel, InvalidReceivers, UnknownMessage
from waitlists.runs import check_node, check_nodes, check_receivers, is_ascending, is_integer, is_message


def is_label(nodes, value):
    """Return whether any value is a label of the nodes."""
    check_nodes(nodes)
    return _is_label(nodes, value)


def start_label(nodes):
    """Return the label of a node without events."""
    check_nodes(nodes)
    return new_label(nodes)


def label_after_send(nodes, label, node, receivers):
    """Return the label of the node after it sends its next message to the receivers."""
    check_nodes(nodes)
    _check_label(nodes, label)
    check_node(nodes, node)
    check_receivers(nodes, node, receivers)
    return sent_label(nodes, label, node, receivers)


def label_after_open(nodes, label, node, message, receivers, carried):
    """Return the label of the node after it opens the message, which carries the label `carried`."""
    check_nodes(nodes)
    _check_label(nodes, label)
    check_node(nodes, node)
    if not is_message(nodes, message) or message[0] == node:
        raise UnknownMessage("a message that can be opened is a tuple of another node and an integer from 1 on")
    check_receivers(nodes, message[0], receivers)
    if node not in receivers:
        raise InvalidReceivers("the receivers of an opened message contain the node")
    _check_label(nodes, carried)
    return opened_label(nodes, label, node, message, receivers, carried)


def new_label(nodes):
    """Return the label of a node without events; nothing is checked."""
    return ({node: 0 for node in nodes}, [])


def sent_label(nodes, label, node, receivers):
    """Return the label of the node after the send; nothing is checked."""
    old_counts, waitlist = label
    counts = {other: old_counts[other] for other in nodes}
    counts[node] += 1
    pairs = [pair for pair in waitlist if pair[1] not in receivers]
    pairs.extend([((node, counts[node]), receiver) for receiver in receivers])
    return (counts, sorted(pairs))


def opened_label(nodes, label, node, message, receivers, carried):
    """Return the label of the node after the open; nothing is checked."""
    sender, number = message
    counts = {other: max(label[0][other], carried[0][other]) for other in nodes}
    counts[sender] = max(counts[sender], number)
    pairs = _merged_pairs(label, node, receivers, carried)
    # Labels that no run has may contain a pair of the message already.
    present = set(pairs)
    for receiver in receivers:
        if receiver != node and (message, receiver) not in present:
            pairs.append((message, receiver))
    return (counts, sorted(pairs))


def _merged_pairs(label, node, receivers, carried):
    """Return what stays of both waitlists when the node opens a message to the receivers that carries a label."""
    counts, waitlist = label
    carried_counts, carried_waitlist = carried
    theirs = set(carried_waitlist)
    pairs = []
    for pair in waitlist:
        (sender, number), receiver = pair
        if pair in theirs:
            kept = receiver not in receivers
        else:
            kept = receiver != node and number > carried_counts[sender]
        if kept:
            pairs.append(pair)
    for pair in carried_waitlist:
        (sender, number), receiver = pair
        # The node is one of the receivers, so its own pairs go, too. Pairs of both waitlists are counted.
        if receiver not in receivers and number > counts[sender]:
            pairs.append(pair)
    return pairs


def _is_label(nodes, value):
    """Return whether any value is a label of the nodes, which are nodes."""
    if not isinstance(value, tuple) or len(value) != 2:
        return False
    counts, waitlist = value
    if not _is_counts(nodes, counts) or not isinstance(waitlist, list):
        return False
    for pair in waitlist:
        if not _is_counted_pair(counts, pair):
            return False
    return is_ascending(waitlist)


def _is_counts(nodes, value):
    """Return whether any value is a dict from exactly the nodes to integers from 0 on."""
    if not isinstance(value, dict) or len(value) != len(nodes):
        return False
    for node in nodes:
        if node not in value or not is_integer(value[node]) or value[node] < 0:
            return False
    return True


def _is_counted_pair(counts, value):
    """Return whether any value is a pair of a message that is counted and another node than its sender."""
    if not isinstance(value, tuple) or len(value) != 2:
        return False
    message, receiver = value
    if not isinstance(message, tuple) or len(message) != 2:
        return False
    sender, number = message
    if not isinstance(sender, str) or sender not in counts or not is_integer(number):
        return False
    if not isinstance(receiver, str) or receiver not in counts:
        return False
    return 1 <= number <= counts[sender] and receiver != sender


def _check_label(nodes, label):
    """Raise InvalidLabel if the value is not a label of the nodes."""
    if not _is_label(nodes, label):
        raise InvalidLabel("a label is a tuple of the counts of the nodes and an ascending list of counted pairs")

"""Nodes, messages and runs (points 2 and 6 to 8)."""

from waitlists.errors import InvalidNodes, InvalidPair, InvalidReceivers, InvalidRun, UnknownMessage, UnknownNode


def is_nodes(value):
    """Return whether any value is a list of nodes."""
    if not isinstance(value, list) or not 2 <= len(value) <= 12:
        return False
    previous = ""
    for entry in value:
        if not isinstance(entry, str) or entry <= previous or len(entry) > 8:
            return False
        previous = entry
    letters = "".join(value)
    return letters.isascii() and letters.isalpha() and letters.islower()


def is_run(nodes, value):
    """Return whether any value is a run of the nodes."""
    check_nodes(nodes)
    return scan_run(nodes, value) is not None


def messages_of(nodes, run):
    """Return a dict from each message of the run to the list of its receivers."""
    sends, _ = check_run(nodes, run)
    return {(node, number): run[index][2][:]
            for node in nodes for number, index in enumerate(sends[node], start=1)}


def send_index(nodes, run, message):
    """Return the index of the event that sends the message."""
    sends, _ = check_run(nodes, run)
    return check_message(sends, message)


def open_index(nodes, run, message, node):
    """Return the index of the event in which the node opens the message, or None."""
    sends, opens = check_run(nodes, run)
    sent = check_message(sends, message)
    check_node(nodes, node)
    return opens[node].get(sent)


def is_name(text):
    """Return whether a string is a name."""
    return len(text) <= 8 and text.isascii() and text.isalpha() and text.islower()


def is_integer(value):
    """Return whether any value is an integer, which a truth value is not."""
    return isinstance(value, int) and not isinstance(value, bool)


def is_node(nodes, value):
    """Return whether any value is one of the nodes."""
    return isinstance(value, str) and value in nodes


def is_ascending(values):
    """Return whether values that can be compared ascend without duplicates."""
    return all([first < second for first, second in zip(values, values[1:])])


def is_receivers(nodes, node, value):
    """Return whether any value is a list of receivers of the node; the nodes may also be the keys of a dict."""
    if not isinstance(value, list) or not value:
        return False
    previous = ""
    for entry in value:
        if not isinstance(entry, str) or entry not in nodes or entry <= previous or entry == node:
            return False
        previous = entry
    return True


def is_message(nodes, value):
    """Return whether any value is a tuple of a node and an integer from 1 on."""
    if not isinstance(value, tuple) or len(value) != 2:
        return False
    return is_node(nodes, value[0]) and is_integer(value[1]) and value[1] >= 1


def find_send(sends, value):
    """Return the index of the send of any value that is a message, or None; `sends` is that of `scan_run`."""
    if not isinstance(value, tuple) or len(value) != 2:
        return None
    sender, number = value
    if not isinstance(sender, str) or sender not in sends or not isinstance(number, int) or number is True:
        return None
    own = sends[sender]
    return own[number - 1] if 0 < number <= len(own) else None


def find_pair(sends, run, value):
    """Return the index of the send of the message of any value that is a pair of the run, or None."""
    if not isinstance(value, tuple) or len(value) != 2:
        return None
    sent = find_send(sends, value[0])
    return sent if sent is not None and value[1] in run[sent][2] else None


def scan_run(nodes, value):
    """Return the sends and the opens of any value that is a run, as two dicts, or None if it is not.

    The first dict has for each node the list of the indices of its sends. The second one has for
    each node a dict: from the index of the send of each message that it opens to that of the open.
    """
    if not isinstance(value, list):
        return None
    sends = {node: [] for node in nodes}
    opens = {node: {} for node in nodes}
    for index, event in enumerate(value):
        if not isinstance(event, tuple) or len(event) != 3:
            return None
        kind, node, detail = event
        if kind == "send":
            if not isinstance(node, str) or node not in sends:
                return None
            own = sends[node]
            # Nodes often send to the same receivers again: comparing lists takes less time than checking one.
            if (not own or detail != value[own[-1]][2]) and not is_receivers(sends, node, detail):
                return None
            own.append(index)
        elif kind == "open":
            # As find_send does it, but written out: a call for each open takes time.
            if not isinstance(detail, tuple) or len(detail) != 2:
                return None
            sender, number = detail
            if not isinstance(sender, str) or sender not in sends or not isinstance(number, int) or number is True:
                return None
            own = sends[sender]
            if not 0 < number <= len(own):
                return None
            sent = own[number - 1]
            if node not in value[sent][2] or sent in opens[node]:
                return None
            opens[node][sent] = index
        else:
            return None
    return (sends, opens)


def check_nodes(nodes):
    """Raise InvalidNodes if the value is not a list of nodes."""
    if not is_nodes(nodes):
        raise InvalidNodes("nodes are a list of 2 to 12 names in ascending order without duplicates")


def check_run(nodes, run):
    """Return what `scan_run` returns; raise InvalidNodes, then InvalidRun, if these are not nodes and a run of them."""
    check_nodes(nodes)
    events = scan_run(nodes, run)
    if events is None:
        raise InvalidRun("a run is a list of sends and of opens of messages that were sent to the node")
    return events


def check_node(nodes, node):
    """Raise UnknownNode if the value is not one of the nodes."""
    if not is_node(nodes, node):
        raise UnknownNode("this is not one of the nodes")


def check_receivers(nodes, node, receivers):
    """Raise InvalidReceivers if the value is not a list of receivers of the node."""
    if not is_receivers(nodes, node, receivers):
        raise InvalidReceivers("receivers are a list of other nodes in ascending order without duplicates")


def check_message(sends, message):
    """Return the index of the send of the message; raise UnknownMessage if the value is not a message of the run."""
    sent = find_send(sends, message)
    if sent is None:
        raise UnknownMessage("this is not a message of the run")
    return sent


def check_pair(sends, run, pair):
    """Return the index of the send of the message of the pair; raise InvalidPair if it is not a pair of the run."""
    sent = find_pair(sends, run, pair)
    if sent is None:
        raise InvalidPair("this is not a message of the run with one of its receivers")
    return sent

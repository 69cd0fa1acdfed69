"""Nodes, messages and runs (points 2 and 6 to 8)."""

from waitlists.errors import InvalidNodes, InvalidRun, UnknownMessage, UnknownNode


def is_nodes(value):
    """Return whether any value is a list of nodes."""
    if not isinstance(value, list) or not 2 <= len(value) <= 12:
        return False
    return all(is_name(entry) for entry in value) and is_ascending(value)


def is_run(nodes, value):
    """Return whether any value is a run of the nodes."""
    check_nodes(nodes)
    if not isinstance(value, list):
        return False
    receivers_of = {}
    sent = {node: 0 for node in nodes}
    opened = set()
    for event in value:
        if not is_event(nodes, event):
            return False
        kind, node, detail = event
        if kind == "send":
            sent[node] += 1
            receivers_of[(node, sent[node])] = detail
        elif node not in receivers_of.get(detail, []) or (detail, node) in opened:
            return False
        else:
            opened.add((detail, node))
    return True


def messages_of(nodes, run):
    """Return a dict from each message of the run to the list of its receivers."""
    check_run(nodes, run)
    sends = send_indices(run)
    return {message: list(run[sends[message]][2]) for message in sorted(sends)}


def send_index(nodes, run, message):
    """Return the index of the event that sends the message."""
    check_run(nodes, run)
    check_message(nodes, run, message)
    return send_indices(run)[message]


def open_index(nodes, run, message, node):
    """Return the index of the event in which the node opens the message, or None."""
    check_run(nodes, run)
    check_message(nodes, run, message)
    check_node(nodes, node)
    for index, event in enumerate(run):
        if event == ("open", node, message):
            return index
    return None


def is_integer(value):
    """Return whether any value is an integer, which a truth value is not."""
    return isinstance(value, int) and not isinstance(value, bool)


def is_name(value):
    """Return whether any value is a name."""
    if not isinstance(value, str) or not 1 <= len(value) <= 8:
        return False
    return all("a" <= letter <= "z" for letter in value)


def is_node(nodes, value):
    """Return whether any value is one of the nodes."""
    return isinstance(value, str) and value in nodes


def is_ascending(values):
    """Return whether values that can be compared ascend without duplicates."""
    return all([first < second for first, second in zip(values, values[1:])])


def is_receivers(nodes, node, value):
    """Return whether any value is a list of receivers of the node."""
    if not isinstance(value, list) or not value:
        return False
    if not all(is_node(nodes, entry) for entry in value):
        return False
    return is_ascending(value) and node not in value


def is_message(nodes, value):
    """Return whether any value is a tuple of a node and an integer from 1 on."""
    if not isinstance(value, tuple) or len(value) != 2:
        return False
    return is_node(nodes, value[0]) and is_integer(value[1]) and value[1] >= 1


def is_event(nodes, value):
    """Return whether any value has the form of an event, whatever was sent before it."""
    if not isinstance(value, tuple) or len(value) != 3:
        return False
    kind, node, detail = value
    if not isinstance(kind, str) or not is_node(nodes, node):
        return False
    if kind == "send":
        return is_receivers(nodes, node, detail)
    return kind == "open" and is_message(nodes, detail)


def event_messages(run):
    """Return the message that each event of a valid run sends or opens."""
    sent = {}
    messages = []
    for kind, node, detail in run:
        if kind == "send":
            sent[node] = sent.get(node, 0) + 1
            messages.append((node, sent[node]))
        else:
            messages.append(detail)
    return messages


def send_indices(run):
    """Return a dict from each message of a valid run to the index of its send, in the order of time."""
    messages = event_messages(run)
    return {messages[index]: index for index, event in enumerate(run) if event[0] == "send"}


def check_nodes(nodes):
    """Raise InvalidNodes if the value is not a list of nodes."""
    if not is_nodes(nodes):
        raise InvalidNodes("nodes are a list of 2 to 12 names in ascending order without duplicates")


def check_run(nodes, run):
    """Raise InvalidNodes, then InvalidRun, if the values are not nodes and a run of them."""
    if not is_run(nodes, run):
        raise InvalidRun("a run is a list of sends and of opens of messages that were sent to the node")


def check_node(nodes, node):
    """Raise UnknownNode if the value is not one of the nodes."""
    if not is_node(nodes, node):
        raise UnknownNode("this is not one of the nodes")


def check_message(nodes, run, message):
    """Raise UnknownMessage if the value is not a message of the valid run."""
    if not is_message(nodes, message) or message not in send_indices(run):
        raise UnknownMessage("this is not a message of the run")

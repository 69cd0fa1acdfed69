"""Which events happen earlier, which later, and which opens are too early (points 9 to 11)."""

from waitlists.errors import InvalidIndex, NotCausal
from waitlists.history import History
from waitlists.runs import check_node, check_run, event_messages, is_integer


def happens_before(nodes, run, first, second):
    """Return whether the event with index `first` happens before the one with index `second`."""
    check_run(nodes, run)
    check_index(run, first)
    check_index(run, second)
    return History(nodes, run).precedes(first, second)


def past_events(nodes, run, node):
    """Return the ascending list of the indices of the events in the past of the node."""
    check_run(nodes, run)
    check_node(nodes, node)
    return History(nodes, run).past_of(node)


def path_between(nodes, run, first, second):
    """Return a path from the event `first` to the event `second`, or None."""
    check_run(nodes, run)
    check_index(run, first)
    check_index(run, second)
    history = History(nodes, run)
    if first != second and not history.precedes(first, second):
        return None
    path = [second]
    while path[-1] != first:
        path.append(_step_back(history, first, path[-1]))
    return path[::-1]


def is_path(nodes, run, value):
    """Return whether any value is a path."""
    check_run(nodes, run)
    if not isinstance(value, list) or not value:
        return False
    if not all(is_index(run, entry) for entry in value):
        return False
    messages = event_messages(run)
    return all([_is_step(run, messages, first, second) for first, second in zip(value, value[1:])])


def same_past(nodes, run, other, node):
    """Return whether both runs have the same past at the node."""
    check_run(nodes, run)
    check_run(nodes, other)
    check_node(nodes, node)
    return _past_by_node(nodes, run, node) == _past_by_node(nodes, other, node)


def first_early_open(nodes, run):
    """Return the index of the first open that is too early, or None."""
    check_run(nodes, run)
    history = History(nodes, run)
    for index, event in enumerate(run):
        if event[0] == "open" and _is_early(history, index):
            return index
    return None


def is_causal(nodes, run):
    """Return whether no open of the run is too early."""
    return first_early_open(nodes, run) is None


def check_causal(nodes, run):
    """Raise InvalidNodes, InvalidRun, then NotCausal if an open of the run is too early."""
    index = first_early_open(nodes, run)
    if index is not None:
        raise NotCausal(index)


def is_index(run, value):
    """Return whether any value is the index of an event."""
    return is_integer(value) and 0 <= value < len(run)


def check_index(run, index):
    """Raise InvalidIndex if the value is not the index of an event."""
    if not is_index(run, index):
        raise InvalidIndex("this is not the index of an event of the run")


def _step_back(history, first, index):
    """Return an event from which a step leads to `index`: `first`, or one after it.

    The event `first` happens before `index`.
    """
    kind, node, _ = history.run[index]
    if kind == "open":
        sent = history.sends[history.messages[index]]
        if first == sent or history.precedes(first, sent):
            return sent
    return max([earlier for earlier in range(index) if history.run[earlier][1] == node])


def _is_step(run, messages, first, second):
    """Return whether a step leads from the first event to the second one."""
    if run[first][1] == run[second][1]:
        return first < second
    # Each message is sent once, so an event of another node with the same message is an open of it.
    return run[first][0] == "send" and messages[first] == messages[second]


def _past_by_node(nodes, run, node):
    """Return a dict from each node to the list of its events in the past of the given node."""
    events = {other: [] for other in nodes}
    for index in History(nodes, run).past_of(node):
        events[run[index][1]].append(run[index])
    return events


def _is_early(history, index):
    """Return whether the open with this index is too early."""
    node = history.run[index][1]
    sent = history.sends[history.messages[index]]
    for message, earlier in history.sends.items():
        if node in history.run[earlier][2] and history.precedes(earlier, sent):
            if history.opens.get((message, node), index) >= index:
                return True
    return False

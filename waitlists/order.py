"""Which events happen earlier, which later, and which opens are too early (points 9 to 11)."""

from waitlists.errors import InvalidIndex, NotCausal
from waitlists.history import check_history, events_in
from waitlists.runs import check_node, check_run, is_integer


def happens_before(nodes, run, first, second):
    """Return whether the event with index `first` happens before the one with index `second`."""
    history = check_history(nodes, run)
    check_index(run, first)
    check_index(run, second)
    return history.precedes(first, second)


def past_events(nodes, run, node):
    """Return the ascending list of the indices of the events in the past of the node."""
    history = check_history(nodes, run)
    check_node(nodes, node)
    return events_in(history.last_pasts[node])


def path_between(nodes, run, first, second):
    """Return a path from the event `first` to the event `second`, or None."""
    history = check_history(nodes, run)
    check_index(run, first)
    check_index(run, second)
    return find_path(history, first, second)


def is_path(nodes, run, value):
    """Return whether any value is a path."""
    _, opens = check_run(nodes, run)
    return is_path_of(run, opens, value)


def same_past(nodes, run, other, node):
    """Return whether both runs have the same past at the node."""
    history = check_history(nodes, run)
    other_history = check_history(nodes, other)
    check_node(nodes, node)
    events = past_by_node(history, history.last_pasts[node])
    return events == past_by_node(other_history, other_history.last_pasts[node])


def first_early_open(nodes, run):
    """Return the index of the first open that is too early, or None."""
    return find_early_open(check_history(nodes, run))


def is_causal(nodes, run):
    """Return whether no open of the run is too early."""
    return first_early_open(nodes, run) is None


def check_causal(nodes, run):
    """Return the history of the run; raise InvalidNodes, InvalidRun, then NotCausal if an open is too early."""
    history = check_history(nodes, run)
    index = find_early_open(history)
    if index is not None:
        raise NotCausal(index)
    return history


def is_index(run, value):
    """Return whether any value is the index of an event."""
    return is_integer(value) and 0 <= value < len(run)


def check_index(run, index):
    """Raise InvalidIndex if the value is not the index of an event."""
    if not is_index(run, index):
        raise InvalidIndex("this is not the index of an event of the run")


def find_path(history, first, second):
    """Return a path from the event `first` to the event `second`, or None."""
    if not history.pasts[second] >> first & 1:
        return None
    path = [second]
    while path[-1] != first:
        path.append(_step_back(history, first, path[-1]))
    return path[::-1]


def is_path_of(run, opens, value):
    """Return whether any value is a path of the run, of which `scan_run` returns these opens."""
    if not isinstance(value, list) or not value:
        return False
    for entry in value:
        if not is_index(run, entry):
            return False
    return all([_is_step(run, opens, first, second) for first, second in zip(value, value[1:])])


def past_by_node(history, past):
    """Return a dict from each node to the list of its events in the mask."""
    events = {node: [] for node in history.nodes}
    for index in events_in(past):
        event = history.run[index]
        events[event[1]].append(event)
    return events


def find_early_open(history):
    """Return the index of the first open that is too early, or None."""
    opens_left = sum([len(opens) for opens in history.opens.values()])
    # For each node the mask of the sends to it that it has not opened so far.
    closed = {node: 0 for node in history.nodes}
    mask = 1
    for index, (kind, node, detail) in enumerate(history.run):
        if opens_left == 0:
            break
        if kind == "send":
            for receiver in detail:
                closed[receiver] |= mask
        else:
            sent = history.sends[detail[0]][detail[1] - 1]
            closed[node] ^= 1 << sent
            if closed[node] & history.pasts[sent]:
                return index
            opens_left -= 1
        mask <<= 1
    return None


def _step_back(history, first, index):
    """Return an event from which a step leads to `index`: `first`, or one after it.

    The event `first` happens before `index`.
    """
    kind, node, detail = history.run[index]
    if kind == "open":
        sent = history.sends[detail[0]][detail[1] - 1]
        if history.pasts[sent] >> first & 1:
            return sent
    earlier = index - 1
    while history.run[earlier][1] != node:
        earlier -= 1
    return earlier


def _is_step(run, opens, first, second):
    """Return whether a step leads from the first event to the second one."""
    node = run[second][1]
    if run[first][1] == node:
        return first < second
    # The opens are kept by the send, so an open of another message is not found.
    return opens[node].get(first) == second

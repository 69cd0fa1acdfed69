"""A run with what follows from it: which events happen before which (point 9)."""

from waitlists.runs import check_run, scan_run


class History:
    """The order of the events of a valid run; `sends` and `opens` are those that `scan_run` returns for it.

    A set of events is kept as a mask: an integer whose bit k is 1 if event k is in the set. The past of
    an event is the mask of the event itself and of all events that happen before it.
    """

    def __init__(self, nodes, run, sends, opens):
        self.nodes = nodes
        self.run = run
        self.sends = sends
        self.opens = opens
        self.pasts = []
        # The past of each node (point 9), which is the past of its last event.
        self.last_pasts = {node: 0 for node in nodes}
        self._add_pasts()

    def _add_pasts(self):
        sends = self.sends
        pasts = self.pasts
        last_pasts = self.last_pasts
        mask = 1
        for kind, node, detail in self.run:
            past = last_pasts[node] | mask
            if kind == "open":
                sender, number = detail
                past |= pasts[sends[sender][number - 1]]
            last_pasts[node] = past
            pasts.append(past)
            mask <<= 1

    def past_before(self, index):
        """Return the mask of the events that happen before the event."""
        return self.pasts[index] ^ 1 << index

    def precedes(self, first, second):
        """Return whether the first event happens before the second one."""
        return first != second and self.pasts[second] >> first & 1 == 1

    def message_at(self, index):
        """Return the message that the event sends."""
        node = self.run[index][1]
        return (node, self.sends[node].index(index) + 1)

    def last_event(self, node):
        """Return the index of the last event of the node, or -1 if it has none."""
        # All other events of its past happen before it, so it has the greatest index.
        return self.last_pasts[node].bit_length() - 1


def read_history(nodes, value):
    """Return the history of any value that is a run of the nodes, or None if it is not."""
    events = scan_run(nodes, value)
    if events is None:
        return None
    sends, opens = events
    return History(nodes, value, sends, opens)


def check_history(nodes, run):
    """Return the history of the run; raise InvalidNodes, then InvalidRun, if these are not nodes and a run of them."""
    sends, opens = check_run(nodes, run)
    return History(nodes, run, sends, opens)


def events_in(past):
    """Return the ascending list of the indices of the events in a mask."""
    return [index for index in range(past.bit_length()) if past >> index & 1]

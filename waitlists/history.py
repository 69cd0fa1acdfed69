"""A run with what follows from it: which events happen before which (point 9)."""

from waitlists.runs import event_messages, send_indices


class History:
    """The order of the events of a valid run.

    The events of a node that happen before an event are always its first ones. So it is enough
    to know how many they are: the clock of an event is a dict from each node to this number,
    the event itself included.
    """

    def __init__(self, nodes, run):
        self.nodes = nodes
        self.run = run
        self.messages = event_messages(run)
        self.sends = send_indices(run)
        self.opens = {}
        self.clocks = []
        self.last_clocks = {node: {other: 0 for other in nodes} for node in nodes}
        for index in range(len(run)):
            self._add_event(index)

    def _add_event(self, index):
        kind, node, _ = self.run[index]
        clock = dict(self.last_clocks[node])
        if kind == "open":
            message = self.messages[index]
            self.opens[(message, node)] = index
            carried = self.clocks[self.sends[message]]
            for other in self.nodes:
                clock[other] = max(clock[other], carried[other])
        clock[node] += 1
        self.clocks.append(clock)
        self.last_clocks[node] = clock

    def is_counted(self, index, clock):
        """Return whether the event is among those that the clock counts."""
        node = self.run[index][1]
        return self.clocks[index][node] <= clock[node]

    def precedes(self, first, second):
        """Return whether the first event happens before the second one."""
        return first != second and self.is_counted(first, self.clocks[second])

    def is_past(self, index, node):
        """Return whether the event is in the past of the node."""
        return self.is_counted(index, self.last_clocks[node])

    def past_of(self, node):
        """Return the ascending list of the indices of the events in the past of the node."""
        return [index for index in range(len(self.run)) if self.is_past(index, node)]

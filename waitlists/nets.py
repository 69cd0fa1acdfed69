"""A net: nodes that send messages and open them by the rule for opening (points 14 and 15)."""

from heapq import heappop, heappush

from waitlists.errors import InvalidPair, NotInTransit, UnknownMessage
from waitlists.labels import new_label, opened_label, sent_label
from waitlists.runs import check_node, check_nodes, check_receivers, is_message


class Net:
    """A net in which nodes send messages, and messages arrive and are opened."""

    def __init__(self, nodes):
        check_nodes(nodes)
        self._nodes = list(nodes)
        self._run = []
        self._labels = {node: new_label(nodes) for node in nodes}
        # For each message its receivers, and the label that it carries.
        self._receivers_of = {}
        self._carried = {}
        # The keys are the (message, receiver) that have not arrived.
        self._in_transit = {}
        # For each node a dict from each message that has arrived and is closed to how many others it waits for.
        self._held = {node: {} for node in nodes}
        # For each node a dict from a message that is not open to the messages that wait for it.
        self._waiting = {node: {} for node in nodes}
        # For each node a dict whose keys are the messages that it has opened, in order.
        self._opened = {node: {} for node in nodes}

    def send_message(self, node, receivers):
        """Let the node send its next message to the receivers; return the message."""
        check_node(self._nodes, node)
        check_receivers(self._nodes, node, receivers)
        label = self._labels[node]
        message = (node, label[0][node] + 1)
        self._receivers_of[message] = list(receivers)
        self._carried[message] = label
        self._labels[node] = sent_label(self._nodes, label, node, receivers)
        self._run.append(("send", node, list(receivers)))
        for receiver in receivers:
            self._in_transit[(message, receiver)] = True
        return message

    def arrive_at(self, message, receiver):
        """Let the message arrive at the receiver; return the messages that it opens then, in order."""
        self._check_message(message)
        check_node(self._nodes, receiver)
        if (message, receiver) not in self._in_transit:
            raise NotInTransit("this message is not under way to this node")
        del self._in_transit[(message, receiver)]
        blockers = self._blockers(message, receiver)
        if blockers:
            self._held[receiver][message] = len(blockers)
            for blocker in blockers:
                self._waiting[receiver].setdefault(blocker, []).append(message)
            return []
        return self._open_all(message, receiver)

    def settle_all(self):
        """Let all messages arrive, the least (message, receiver) first; return the number of arrivals."""
        arrivals = self.in_transit()
        for message, receiver in arrivals:
            self.arrive_at(message, receiver)
        return len(arrivals)

    def in_transit(self):
        """Return the ascending list of the (message, receiver) that have not arrived."""
        return sorted(self._in_transit)

    def held_by(self, node):
        """Return the ascending list of the messages that have arrived at the node and are closed."""
        check_node(self._nodes, node)
        return sorted(self._held[node])

    def opened_by(self, node):
        """Return the list of the messages that the node has opened, in order."""
        check_node(self._nodes, node)
        return list(self._opened[node])

    def label_at(self, node):
        """Return the label of the node."""
        check_node(self._nodes, node)
        counts, waitlist = self._labels[node]
        return (dict(counts), list(waitlist))

    def blocked_by(self, message, receiver):
        """Return the ascending list of the messages that the receiver must still open before the message."""
        self._check_message(message)
        check_node(self._nodes, receiver)
        if receiver not in self._receivers_of[message]:
            raise InvalidPair("this node is not a receiver of this message")
        return self._blockers(message, receiver)

    def recorded_run(self):
        """Return the run of all sends and opens so far."""
        return [(kind, node, list(detail)) if kind == "send" else (kind, node, detail)
                for kind, node, detail in self._run]

    def _check_message(self, message):
        """Raise UnknownMessage if the value is not a message that has been sent."""
        if not is_message(self._nodes, message) or message not in self._receivers_of:
            raise UnknownMessage("this message has not been sent")

    def _blockers(self, message, receiver):
        """Return the messages that are paired with the receiver in the carried waitlist and that it has not opened."""
        opened = self._opened[receiver]
        return [other for other, node in self._carried[message][1] if node == receiver and other not in opened]

    def _open_all(self, message, receiver):
        """Let the receiver open the message, and then all that it holds and may open, the least one first."""
        ready = [message]
        opened = []
        while ready:
            least = heappop(ready)
            self._open_one(least, receiver)
            opened.append(least)
            freed = self._waiting[receiver].pop(least, [])
            for other in freed:
                self._held[receiver][other] -= 1
                if self._held[receiver][other] == 0:
                    del self._held[receiver][other]
                    heappush(ready, other)
        return opened

    def _open_one(self, message, receiver):
        """Let the receiver open the message."""
        label = self._labels[receiver]
        self._labels[receiver] = opened_label(self._nodes, label, receiver, message, self._receivers_of[message],
                                              self._carried[message])
        self._opened[receiver][message] = True
        self._run.append(("open", receiver, message))

"""The points of the document, word by word and slowly, to compare the package with. Nothing here is from the package."""

from itertools import permutations


def sent_messages(run):
    """Return a dict from each message to the index of its send."""
    sends = {}
    for index, (kind, node, _) in enumerate(run):
        if kind == "send":
            number = 1 + sum(1 for event in run[:index] if event[:2] == ("send", node))
            sends[(node, number)] = index
    return sends


def is_step(run, first, second):
    """Return whether a step leads from one event to the other (point 9)."""
    if run[first][1] == run[second][1] and first < second:
        return True
    if run[first][0] != "send" or run[second][0] != "open":
        return False
    return sent_messages(run)[run[second][2]] == first


def earlier_events(run):
    """Return for each event the set of the events that happen before it (point 9)."""
    sends = sent_messages(run)
    before = []
    for index, (kind, node, detail) in enumerate(run):
        direct = {k for k in range(index) if run[k][1] == node}
        if kind == "open":
            direct.add(sends[detail])
        before.append(direct.union(*[before[k] for k in direct]))
    return before


def past(run, node):
    """Return the set of the events in the past of the node (point 9)."""
    own = [index for index, event in enumerate(run) if event[1] == node]
    if not own:
        return set()
    return {own[-1]} | earlier_events(run)[own[-1]]


def is_early(run, index):
    """Return whether the open is too early (point 10)."""
    _, node, opened = run[index]
    sends = sent_messages(run)
    before = earlier_events(run)
    for message, sent in sends.items():
        if message == opened or node not in run[sent][2] or sent not in before[sends[opened]]:
            continue
        if ("open", node, message) not in run[:index]:
            return True
    return False


def first_early(run):
    """Return the index of the first open that is too early, or None."""
    for index, event in enumerate(run):
        if event[0] == "open" and is_early(run, index):
            return index
    return None


def opens_in_order(run, message, node):
    """Return whether the node may open the message at the end of the run."""
    return not is_early(run + [("open", node, message)], len(run))


def same_past(nodes, run, other, node):
    """Return whether the node has the same past in both runs (point 11)."""
    for x in nodes:
        lists = [[each[k] for k in sorted(past(each, node)) if each[k][1] == x] for each in (run, other)]
        if lists[0] != lists[1]:
            return False
    return True


def known(run, node):
    """Return the messages that the node knows (point 9)."""
    inside = past(run, node)
    return [message for message, sent in sent_messages(run).items() if sent in inside]


def counts(nodes, run, node):
    """Return the counts of the node (point 13)."""
    messages = known(run, node)
    return {sender: sum(1 for message in messages if message[0] == sender) for sender in nodes}


def waitlist(run, node):
    """Return the waitlist of the node (point 12)."""
    sends = sent_messages(run)
    before = earlier_events(run)
    inside = past(run, node)
    messages = known(run, node)
    opened = [(run[k][2], run[k][1]) for k in inside if run[k][0] == "open"]
    pairs = []
    for message in messages:
        for receiver in run[sends[message]][2]:
            later = [other for other in messages
                     if receiver in run[sends[other]][2] and sends[message] in before[sends[other]]]
            if (message, receiver) not in opened and not later:
                pairs.append((message, receiver))
    return sorted(pairs)


def is_valid(nodes, run):
    """Return whether a list of events of the right kinds is a run (point 8)."""
    for index, (kind, node, detail) in enumerate(run):
        if kind == "send":
            if not detail or detail != sorted(set(detail)) or node in detail or not set(detail) <= set(nodes):
                return False
            continue
        sends = sent_messages(run[:index])
        if detail not in sends or node not in run[sends[detail]][2] or run[index] in run[:index]:
            return False
    return True


def is_path(run, path):
    """Return whether a list of indices is a path (point 9)."""
    return len(path) > 0 and all(is_step(run, first, second) for first, second in zip(path, path[1:]))


def label(nodes, run, node):
    """Return the label of the node (point 13)."""
    return (counts(nodes, run, node), waitlist(run, node))


def label_after_send(nodes, old, node, receivers):
    """Return the label of the node after a send, sentence by sentence (point 17)."""
    counted = {other: old[0][other] for other in nodes}
    counted[node] += 1
    pairs = {pair for pair in old[1] if pair[1] not in receivers}
    for receiver in receivers:
        pairs.add(((node, counted[node]), receiver))
    return (counted, sorted(pairs))


def label_after_open(nodes, old, node, message, receivers, carried):
    """Return the label of the node after an open, sentence by sentence (point 17)."""
    counted = {other: max(old[0][other], carried[0][other]) for other in nodes}
    counted[message[0]] = max(counted[message[0]], message[1])
    pairs = set()
    for pair in old[1]:
        if pair[0][1] > carried[0][pair[0][0]] or pair in carried[1]:
            pairs.add(pair)
    for pair in carried[1]:
        if pair[0][1] > old[0][pair[0][0]] or pair in old[1]:
            pairs.add(pair)
    pairs = {pair for pair in pairs if pair[1] != node}
    pairs = {pair for pair in pairs if not (pair in carried[1] and pair[1] in receivers)}
    for receiver in receivers:
        if receiver != node:
            pairs.add((message, receiver))
    return (counted, sorted(pairs))


def is_needing(nodes, run, node, pair, value):
    """Return whether a list of events of the right kinds is a needing run (point 19)."""
    message, receiver = pair
    if len(value) < 2 or not is_valid(nodes, value):
        return False
    before = value[:-2]
    own = 1 + sum(1 for event in before if event[:2] == ("send", node))
    if value[-2:] != [("send", node, [receiver]), ("open", receiver, (node, own))]:
        return False
    if first_early(before) is not None or not same_past(nodes, run, before, node):
        return False
    if ("open", receiver, message) in value:
        return False
    others = [other for other, to in waitlist(run, node) if to == receiver and other != message]
    return all(("open", receiver, other) in value for other in others)


def last_event(run, node):
    """Return the index of the last event of the node, or None."""
    own = [index for index, event in enumerate(run) if event[1] == node]
    return own[-1] if own else None


def kinds_of_reasons(run, node, pair):
    """Return the kinds of the reasons that apply, in the order of the document (point 20)."""
    message, receiver = pair
    sends = sent_messages(run)
    before = earlier_events(run)
    messages = known(run, node)
    kinds = []
    if message not in messages:
        kinds.append("unknown")
    if ("open", receiver, message) in [run[index] for index in past(run, node)]:
        kinds.append("opened")
    if [other for other in messages if receiver in run[sends[other]][2] and sends[message] in before[sends[other]]]:
        kinds.append("covered")
    return kinds


def is_reason(run, node, pair, value):
    """Return whether a tuple of the right kinds is a reason (point 20)."""
    message, receiver = pair
    sends = sent_messages(run)
    last = last_event(run, node)
    if value == ("unknown",):
        return message not in known(run, node)
    if last is None:
        return False
    if value[0] == "opened":
        event = ("open", receiver, message)
        path = value[1]
        return event in run and is_path(run, path) and path[0] == run.index(event) and path[-1] == last
    _, other, path, rest = value
    if other == message or other not in sends or receiver not in run[sends[other]][2]:
        return False
    if not is_path(run, path) or not is_path(run, rest):
        return False
    return [path[0], path[-1], rest[0], rest[-1]] == [sends[message], sends[other], sends[other], last]


def closed(run, node):
    """Return the closed messages of the node (point 22)."""
    sends = sent_messages(run)
    return sorted(message for message, sent in sends.items()
                  if node in run[sent][2] and ("open", node, message) not in run)


def is_opening(run, node, order):
    """Return whether a list of messages is an order of opening of the node in a causal run (point 22)."""
    opened = run + [("open", node, message) for message in order]
    return sorted(order) == closed(run, node) and not any(is_early(opened, k) for k in range(len(run), len(opened)))


def openings(run, node):
    """Return the ascending list of all orders of opening of the node in a causal run (point 22)."""
    return [list(order) for order in permutations(closed(run, node)) if is_opening(run, node, list(order))]


def message_text(message):
    """Return the text of a message (point 23)."""
    return message[0] + "." + str(message[1])


def pairs_text(pairs):
    """Return the text of a list of pairs (point 23)."""
    return " ".join(message_text(message) + ">" + receiver for message, receiver in pairs)


def run_text(run):
    """Return the text of a run (point 23)."""
    words = []
    for kind, node, detail in run:
        words.append(node + ">" + ",".join(detail) if kind == "send" else node + "<" + message_text(detail))
    return " ".join(words)


class SlowNet:
    """A net that looks at everything anew in each step (point 14); it records its run."""

    def __init__(self, nodes):
        self.nodes = nodes
        self.run = []
        self.arrived = []
        self.carried = {}

    def send(self, node, receivers):
        """Let the node send its next message."""
        message = (node, 1 + sum(1 for event in self.run if event[:2] == ("send", node)))
        self.carried[message] = label(self.nodes, self.run, node)
        self.run.append(("send", node, receivers))
        return message

    def blockers(self, message, node):
        """Return the messages that the node must still open first."""
        return sorted(other for other, to in self.carried[message][1]
                      if to == node and ("open", node, other) not in self.run)

    def held(self, node):
        """Return the messages that have arrived at the node and are closed."""
        return sorted(message for message, to in self.arrived
                      if to == node and ("open", node, message) not in self.run)

    def arrive(self, message, node):
        """Let the message arrive; return what the node opens then."""
        self.arrived.append((message, node))
        opened = []
        while True:
            free = [other for other in self.held(node) if not self.blockers(other, node)]
            if not free:
                return opened
            opened.append(free[0])
            self.run.append(("open", node, free[0]))

    def transit(self):
        """Return what has not arrived."""
        sends = sent_messages(self.run)
        pairs = [(message, node) for message in sends for node in self.run[sends[message]][2]]
        return sorted(pair for pair in pairs if pair not in self.arrived)

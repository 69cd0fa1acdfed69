"""The points of the document, word by word and slowly, to compare the package with. Nothing here is from the package."""


def sent_messages(run):
    """Return a dict from each message to the index of its send."""
    sends = {}
    for index, (kind, node, _) in enumerate(run):
        if kind == "send":
            number = 1 + sum(1 for event in run[:index] if event[:2] == ("send", node))
            sends[(node, number)] = index
    return sends


def is_step(run, first, second):
    """Return whether a step leads from one event to the other (point 9)."""
    if run[first][1] == run[second][1] and first < second:
        return True
    if run[first][0] != "send" or run[second][0] != "open":
        return False
    return sent_messages(run)[run[second][2]] == first


def earlier_events(run):
    """Return for each event the set of the events that happen before it (point 9)."""
    sends = sent_messages(run)
    before = []
    for index, (kind, node, detail) in enumerate(run):
        direct = {k for k in range(index) if run[k][1] == node}
        if kind == "open":
            direct.add(sends[detail])
        before.append(direct.union(*[before[k] for k in direct]))
    return before


def past(run, node):
    """Return the set of the events in the past of the node (point 9)."""
    own = [index for index, event in enumerate(run) if event[1] == node]
    if not own:
        return set()
    return {own[-1]} | earlier_events(run)[own[-1]]


def is_early(run, index):
    """Return whether the open is too early (point 10)."""
    _, node, opened = run[index]
    sends = sent_messages(run)
    before = earlier_events(run)
    for message, sent in sends.items():
        if message == opened or node not in run[sent][2] or sent not in before[sends[opened]]:
            continue
        if ("open", node, message) not in run[:index]:
            return True
    return False


def first_early(run):
    """Return the index of the first open that is too early, or None."""
    for index, event in enumerate(run):
        if event[0] == "open" and is_early(run, index):
            return index
    return None


def opens_in_order(run, message, node):
    """Return whether the node may open the message at the end of the run."""
    return not is_early(run + [("open", node, message)], len(run))


def same_past(nodes, run, other, node):
    """Return whether the node has the same past in both runs (point 11)."""
    for x in nodes:
        lists = [[each[k] for k in sorted(past(each, node)) if each[k][1] == x] for each in (run, other)]
        if lists[0] != lists[1]:
            return False
    return True


def known(run, node):
    """Return the messages that the node knows (point 9)."""
    inside = past(run, node)
    return [message for message, sent in sent_messages(run).items() if sent in inside]


def counts(nodes, run, node):
    """Return the counts of the node (point 13)."""
    messages = known(run, node)
    return {sender: sum(1 for message in messages if message[0] == sender) for sender in nodes}


def waitlist(run, node):
    """Return the waitlist of the node (point 12)."""
    sends = sent_messages(run)
    before = earlier_events(run)
    inside = past(run, node)
    messages = known(run, node)
    opened = [(run[k][2], run[k][1]) for k in inside if run[k][0] == "open"]
    pairs = []
    for message in messages:
        for receiver in run[sends[message]][2]:
            later = [other for other in messages
                     if receiver in run[sends[other]][2] and sends[message] in before[sends[other]]]
            if (message, receiver) not in opened and not later:
                pairs.append((message, receiver))
    return sorted(pairs)

"""Needing runs: what goes wrong if a pair is missing from a waitlist (points 16 and 19)."""

from waitlists.errors import NotNeeded
from waitlists.history import events_in, read_history
from waitlists.lists import waitlist_in
from waitlists.order import check_causal, find_early_open, past_by_node
from waitlists.runs import check_node, check_pair, find_send


def needing_run(nodes, run, node, pair):
    """Return a needing run for the node and the pair of its waitlist."""
    history, waitlist = _check_needed(nodes, run, node, pair)
    return build_needing_run(history, node, pair, waitlist)


def is_needing_run(nodes, run, node, pair, value):
    """Return whether any value is a needing run for the node and the pair of its waitlist."""
    history, waitlist = _check_needed(nodes, run, node, pair)
    message, receiver = pair
    judged = read_history(nodes, value)
    if judged is None or not _ends_with_open(judged, node, receiver):
        return False
    last_send = len(value) - 2
    early = find_early_open(judged)
    if early is not None and early < last_send:
        return False
    if past_by_node(judged, judged.past_before(last_send)) != past_by_node(history, history.last_pasts[node]):
        return False
    # The past is the same, so the judged run has the messages of the waitlist, too.
    opened = judged.opens[receiver]
    if find_send(judged.sends, message) in opened:
        return False
    return all([find_send(judged.sends, other) in opened for other in _other_messages(waitlist, pair)])


def build_needing_run(history, node, pair, waitlist):
    """Return a needing run for the node and the pair of its waitlist; nothing is checked."""
    run = history.run
    receiver = pair[1]
    past = history.last_pasts[node]
    found = [_copied_event(run[index]) for index in events_in(past)]
    # The messages to the receiver up to the other ones that are paired with it. The message of the pair is not
    # among them: if it were sent before one of the others, it would not be in the waitlist.
    wanted = 0
    for message in _other_messages(waitlist, pair):
        wanted |= history.pasts[find_send(history.sends, message)]
    for index in events_in(wanted):
        kind, _, detail = run[index]
        if kind == "send" and receiver in detail and not _is_opened_in(history, past, index, receiver):
            found.append(("open", receiver, history.message_at(index)))
    found.append(("send", node, [receiver]))
    found.append(("open", receiver, (node, len(history.sends[node]) + 1)))
    return found


def _check_needed(nodes, run, node, pair):
    """Return the history of the run, and the waitlist of the node.

    Raise InvalidNodes, InvalidRun, NotCausal, UnknownNode, InvalidPair, then NotNeeded if the pair is not in
    the waitlist of the node.
    """
    history = check_causal(nodes, run)
    check_node(nodes, node)
    check_pair(history.sends, run, pair)
    waitlist = waitlist_in(history, history.last_pasts[node])
    if pair not in waitlist:
        raise NotNeeded("the waitlist of the node does not contain this pair")
    return (history, waitlist)


def _other_messages(waitlist, pair):
    """Return the other messages that are paired with the receiver of the pair in the waitlist."""
    return [message for message, receiver in waitlist if receiver == pair[1] and message != pair[0]]


def _copied_event(event):
    """Return an event with a list of receivers of its own."""
    kind, node, detail = event
    return (kind, node, list(detail)) if kind == "send" else event


def _is_opened_in(history, past, sent, receiver):
    """Return whether the past, a mask, contains the open by the receiver of the message that was sent there."""
    opened = history.opens[receiver].get(sent)
    return opened is not None and past >> opened & 1 == 1


def _ends_with_open(history, node, receiver):
    """Return whether the run ends with a send from the node to the receiver alone and the open of this message."""
    run = history.run
    if len(run) < 2 or run[-2] != ("send", node, [receiver]):
        return False
    return history.opens[receiver].get(len(run) - 2) == len(run) - 1

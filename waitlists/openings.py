"""Closed messages and the orders in which they can be opened (point 22), and the longest waitlist (point 18)."""

from waitlists.errors import InvalidIndex, TooMany
from waitlists.order import check_causal
from waitlists.runs import check_node, check_nodes, find_send, is_integer

MOST_CLOSED = 12


def next_opens(nodes, run):
    """Return the ascending list of the (node, message) whose opens are possible next."""
    history = check_causal(nodes, run)
    found = []
    for node in nodes:
        rows = _closed_rows(history, node)
        closed = _mask_of(rows)
        found.extend([(node, message) for message, sent, past in rows if past & closed == sent])
    return found


def closed_messages(nodes, run, node):
    """Return the ascending list of the closed messages of the node."""
    _, rows = _check_closed(nodes, run, node)
    return [row[0] for row in rows]


def is_opening(nodes, run, node, value):
    """Return whether any value is an order of opening of the node."""
    history, rows = _check_closed(nodes, run, node)
    if not isinstance(value, list):
        return False
    left = _mask_of(rows)
    for entry in value:
        index = find_send(history.sends, entry)
        # A message that is not closed is refused, too: the mask of its own send is not in the mask of those left.
        if index is None or history.pasts[index] & left != 1 << index:
            return False
        left ^= 1 << index
    return left == 0


def count_openings(nodes, run, node):
    """Return the number of the orders of opening of the node."""
    rows = _check_few_closed(nodes, run, node)
    return _count_orders(rows, _mask_of(rows), {})


def nth_opening(nodes, run, node, number):
    """Return the order of opening with this number, counted from 0 in ascending order."""
    rows = _check_few_closed(nodes, run, node)
    left = _mask_of(rows)
    counts = {}
    many = _count_orders(rows, left, counts)
    if not is_integer(number) or not 0 <= number < many:
        raise InvalidIndex("this is not the number of an order of opening")
    order = []
    to_skip = number
    while left:
        for message, sent, past in rows:
            behind = counts[left ^ sent] if past & left == sent else 0
            if to_skip < behind:
                break
            to_skip -= behind
        order.append(message)
        left ^= sent
    return order


def longest_size(nodes):
    """Return the greatest number of pairs that a waitlist can have."""
    check_nodes(nodes)
    return (len(nodes) - 1) * (len(nodes) - 1)


def longest_run(nodes, node):
    """Return a causal run in which the waitlist of the node has the greatest number of pairs."""
    check_nodes(nodes)
    check_node(nodes, node)
    # No node knows a message of another one when it sends its own, so none of these messages covers another one.
    run = [("send", sender, [other for other in nodes if other != sender]) for sender in nodes]
    run.extend([("open", node, (sender, 1)) for sender in nodes if sender != node])
    return run


def _check_closed(nodes, run, node):
    """Return the history of the run, and the closed messages of the node as `_closed_rows` does.

    Raise InvalidNodes, InvalidRun, NotCausal, then UnknownNode if the value is not one of the nodes.
    """
    history = check_causal(nodes, run)
    check_node(nodes, node)
    return (history, _closed_rows(history, node))


def _check_few_closed(nodes, run, node):
    """Return the closed messages of the node as `_closed_rows` does.

    Raise what `_check_closed` raises, then TooMany if too many messages are closed.
    """
    _, rows = _check_closed(nodes, run, node)
    if len(rows) > MOST_CLOSED:
        raise TooMany(len(rows))
    return rows


def _closed_rows(history, node):
    """Return (message, mask of its send, past of its send) of each closed message of the node, in ascending order.

    A closed message may be opened first if no other send of a closed message is in the past of its send.
    """
    rows = []
    opened = history.opens[node]
    for sender in history.nodes:
        for number, index in enumerate(history.sends[sender], start=1):
            if node in history.run[index][2] and index not in opened:
                rows.append(((sender, number), 1 << index, history.pasts[index]))
    return rows


def _mask_of(rows):
    """Return the mask of the sends of the closed messages."""
    return sum([row[1] for row in rows])


def _count_orders(rows, left, counts):
    """Return the number of orders of opening the closed messages whose sends are in the mask `left`.

    Many orders begin with the same messages: the numbers are kept in `counts`, from what is left to the number.
    """
    many = 1 if left == 0 else 0
    for _, sent, past in rows:
        if past & left == sent:
            rest = left ^ sent
            many += counts[rest] if rest in counts else _count_orders(rows, rest, counts)
    counts[left] = many
    return many

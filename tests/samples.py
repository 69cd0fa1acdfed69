"""Values that several test files use: the document's run, odd values, random runs."""

import random

from tests import oracle

NODES = ["a", "b", "c"]


def sample_run():
    """Return the run of the document's examples, anew at each call."""
    return [("send", "a", ["c"]), ("send", "a", ["b"]), ("open", "b", ("a", 2)), ("send", "b", ["c"])]


def early_run():
    """Return a run whose open at index 4 is too early."""
    return sample_run() + [("open", "c", ("b", 1))]


def nested(depth):
    """Return a list nested so many levels deep."""
    value = []
    for _ in range(depth - 1):
        value = [value]
    return value


def odd_values():
    """Return values of many kinds, anew at each call.

    None of them is a list of nodes, a node of NODES, a message of the sample run, or an index,
    and only the empty list is a run.
    """
    return [
        None, True, False, -1, -2, 4, 10 ** 17, -10 ** 17, "", "A", "ab", "d", "a ", "a1", "open", "send", "\u00e4",
        b"", b"a", (), [], {}, set(), frozenset(), [[]], ((),), [()], [{}], nested(20), object(), len, ValueError,
        {"a": 1}, {"a": ["b"], "b": ["c"]}, {1: []}, {"a", "b"}, range(3), iter([]), Ellipsis,
        ["a"], ["b", "a"], ["a", "a"], ["a", 1], ["a", None], ["a", ["b"]], ["a", {}], ("a", "b"), "abc", [1, 2], [True],
        ["a", "b", True], [b"a", b"b"], ["a", "B"], ["", "a"], ["a", "bbbbbbbbb"], ["a", "b", "b"],
        ["a", 1], ("a",), ("a", 0), ("a", -1), ("a", 3), ("a", 1, 1), ("a", True), ("a", "1"), ("a", None), ("a", [1]),
        ("b", 2), ("c", 1), ("d", 1), (1, "a"), ("", 1), ("a b", 1), (["a"], 1), ({}, 1), (None, 1), (("a", 1),),
        (("a", 1), 1), [("a", 1)], {("a", 1): 1}, ("send", "a", ["b"]), ("open", "b", ("a", 1)),
        [("send", "a")], [["send", "a", ["b"]]], [("send", "a", ("b",))], [("send", "a", "b")], [("send", "a", [])],
    ]


def random_run(seed, nodes, length, causal):
    """Return a run of so many events; if `causal`, one in which no open is too early."""
    chance = random.Random(seed)
    run = []
    while len(run) < length:
        closed = closed_pairs(run)
        if closed and chance.random() < 0.6:
            message, node = chance.choice(closed)
            event = ("open", node, message)
            if causal and not oracle.opens_in_order(run, message, node):
                continue
        else:
            node = chance.choice(nodes)
            others = [other for other in nodes if other != node]
            many = chance.choice([1, 1, 2, len(others)])
            event = ("send", node, sorted(chance.sample(others, min(many, len(others)))))
        run.append(event)
    return run


def closed_pairs(run):
    """Return the ascending list of (message, receiver) that the receiver has not opened."""
    opened = [(event[2], event[1]) for event in run if event[0] == "open"]
    sent = oracle.sent_messages(run)
    pairs = [(message, node) for message in sent for node in run[sent[message]][2]]
    return sorted(pair for pair in pairs if pair not in opened)


def random_runs(causal):
    """Return some (nodes, run) of few and of many nodes, short and long."""
    rows = []
    for seed in range(60):
        nodes = ["a", "b", "c", "d", "e"][:2 + seed % 4]
        rows.append((nodes, random_run(seed, nodes, seed % 26, causal)))
    return rows


def long_run(nodes, length):
    """Return a causal run of so many events in which everybody sends to everybody and opens all in order."""
    run = []
    numbers = {node: 0 for node in nodes}
    while len(run) < length:
        for node in nodes:
            others = [other for other in nodes if other != node]
            numbers[node] += 1
            run.append(("send", node, others))
            run.extend(("open", other, (node, numbers[node])) for other in others)
    return run[:length]

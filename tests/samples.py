"""Values that several test files use: the document's run, odd values, runs and labels that are made by counting."""

import copy

from tests import oracle
from waitlists.errors import WaitError

NODES = ["a", "b", "c"]


def sample_run():
    """Return the run of the document's examples, anew at each call."""
    return [("send", "a", ["c"]), ("send", "a", ["b"]), ("open", "b", ("a", 2)), ("send", "b", ["c"])]


def early_run():
    """Return a run whose open at index 4 is too early."""
    return sample_run() + [("open", "c", ("b", 1))]


def nested(depth):
    """Return a list nested so many levels deep."""
    value = []
    for _ in range(depth - 1):
        value = [value]
    return value


def odd_values():
    """Return values of many kinds, anew at each call.

    None of them is a list of nodes, a node of NODES, a message of the sample run, or an index,
    and only the empty list is a run.
    """
    return [
        None, True, False, -1, -2, 4, 10 ** 17, -10 ** 17, "", "A", "ab", "d", "a ", "a1", "open", "send", "\u00e4",
        b"", b"a", (), [], {}, set(), frozenset(), [[]], ((),), [()], [{}], nested(20), object(), len, ValueError,
        {"a": 1}, {"a": ["b"], "b": ["c"]}, {1: []}, {"a", "b"}, range(3), iter([]), Ellipsis,
        ["a"], ["b", "a"], ["a", "a"], ["a", 1], ["a", None], ["a", ["b"]], ["a", {}], ("a", "b"), "abc", [1, 2], [True],
        ["a", "b", True], [b"a", b"b"], ["a", "B"], ["", "a"], ["a", "bbbbbbbbb"], ["a", "b", "b"],
        ["a", 1], ("a",), ("a", 0), ("a", -1), ("a", 3), ("a", 1, 1), ("a", True), ("a", "1"), ("a", None), ("a", [1]),
        ("b", 2), ("c", 1), ("d", 1), (1, "a"), ("", 1), ("a b", 1), (["a"], 1), ({}, 1), (None, 1), (("a", 1),),
        (("a", 1), 1), [("a", 1)], {("a", 1): 1}, ("send", "a", ["b"]), ("open", "b", ("a", 1)),
        [("send", "a")], [["send", "a", ["b"]]], [("send", "a", ("b",))], [("send", "a", "b")], [("send", "a", [])],
    ]


class Choices:
    """Choices that look mixed but are counted: the same ones each time, from the same start."""

    def __init__(self, start):
        self.state = 7919 * start + 1

    def below(self, many):
        """Return the next choice, an integer from 0 to `many` - 1."""
        self.state = self.state * 48271 % 2147483647
        return self.state // 64 % many

    def one_of(self, values):
        """Return one of the values."""
        return values[self.below(len(values))]

    def some_of(self, values, many):
        """Return so many of the values, in their order."""
        left = list(values)
        while len(left) > many:
            del left[self.below(len(left))]
        return left


def made_run(start, nodes, length, causal):
    """Return a run of so many events; if `causal`, one in which no open is too early."""
    choices = Choices(start)
    run = []
    while len(run) < length:
        closed = closed_pairs(run)
        if closed and choices.below(10) < 6:
            message, node = choices.one_of(closed)
            event = ("open", node, message)
            if causal and not oracle.opens_in_order(run, message, node):
                continue
        else:
            node = choices.one_of(nodes)
            event = ("send", node, made_receivers(choices, nodes, node))
        run.append(event)
    return run


def made_receivers(choices, nodes, node):
    """Return receivers of the node, often few and sometimes all others."""
    others = [other for other in nodes if other != node]
    return choices.some_of(others, choices.one_of([1, 1, 2, len(others)]))


def closed_pairs(run):
    """Return the ascending list of (message, receiver) that the receiver has not opened."""
    opened = [(event[2], event[1]) for event in run if event[0] == "open"]
    sent = oracle.sent_messages(run)
    pairs = [(message, node) for message in sent for node in run[sent[message]][2]]
    return sorted(pair for pair in pairs if pair not in opened)


def made_runs(causal):
    """Return some (nodes, run) of few and of many nodes, short and long."""
    rows = []
    for start in range(60):
        nodes = ["a", "b", "c", "d", "e"][:2 + start % 4]
        rows.append((nodes, made_run(start, nodes, start % 26, causal)))
    return rows


def long_run(nodes, length):
    """Return a causal run of so many events in which everybody sends to everybody and opens all in order."""
    run = []
    numbers = {node: 0 for node in nodes}
    while len(run) < length:
        for node in nodes:
            others = [other for other in nodes if other != node]
            numbers[node] += 1
            run.append(("send", node, others))
            run.extend(("open", other, (node, numbers[node])) for other in others)
    return run[:length]


def made_label(start, nodes):
    """Return a label of the nodes, mostly one that no run has."""
    choices = Choices(start)
    size = choices.one_of([1, 2, 3, 3, 10 ** 17])
    counts = {node: choices.below(size + 1) for node in nodes}
    pairs = []
    for sender in nodes:
        for receiver in nodes:
            for number in sorted({1, 2, 3, counts[sender]}):
                if receiver != sender and 1 <= number <= counts[sender] and choices.below(3) == 0:
                    pairs.append(((sender, number), receiver))
    return (counts, sorted(pairs))


def told(function, *arguments):
    """Return the result of a call, or the class and the fields of the error that it raises."""
    try:
        return function(*arguments)
    except WaitError as error:
        return (error.__class__, vars(error))


def assert_error(test, error, function, *arguments):
    """Assert that a call raises the error, of its own class alone, and leaves its arguments as they are."""
    before = copy.deepcopy(arguments)
    with test.assertRaises(error) as caught:
        function(*arguments)
    test.assertIs(caught.exception.__class__, error)
    test.assertEqual([error.__bases__, WaitError.__bases__], [(WaitError,), (ValueError,)])
    test.assertEqual(arguments, before)


def all_pairs(run):
    """Return the ascending list of the pairs of a run."""
    sends = oracle.sent_messages(run)
    return sorted((message, receiver) for message in sends for receiver in run[sends[message]][2])

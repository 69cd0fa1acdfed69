"""waitlists/labels.py: points 13 and 17."""

import copy
import unittest

from tests import oracle
from tests.samples import NODES, Choices, made_label, made_receivers, made_runs, odd_values
from waitlists.errors import InvalidLabel, InvalidNodes, InvalidReceivers, UnknownMessage, UnknownNode, WaitError
from waitlists.labels import is_label, label_after_open, label_after_send, start_label

ZERO = {"a": 0, "b": 0, "c": 0}
BIG = 10 ** 18 - 1


def counts(a, b, c):
    """Return the counts of the three nodes."""
    return {"a": a, "b": b, "c": c}


def wrong_counts():
    """Return values that are not counts of the three nodes."""
    return [
        {}, {"a": 0, "b": 0}, {"a": 0, "b": 0, "d": 0}, {"a": 0, "b": 0, "c": 0, "d": 0}, counts(0, 0, -1),
        counts(True, 0, 0), counts(0, False, 0), counts(0, "0", 0), counts(0, None, 0), counts([], 0, 0), counts(0, 0, {}),
        {"a": 0, "b": 0, 1: 0}, {"a": 0, "b": 0, ("c",): 0}, {"a": 0, "b": 0, None: 0}, {b"a": 0, "b": 0, "c": 0},
        [("a", 0), ("b", 0), ("c", 0)], ["a", "b", "c"], ("a", "b", "c"), "abc", None, 0, (ZERO,), [ZERO], {"a", "b", "c"},
    ]


def wrong_waitlists():
    """Return values that are not waitlists beside the counts 2, 1, 0."""
    return [
        None, 0, "", (), {}, ((("a", 1), "c"),), {(("a", 1), "c"): 1}, {(("a", 1), "c")}, "a",
        [(("a", 1), "a")], [(("a", 1), "d")], [(("d", 1), "a")], [(("a", 0), "c")], [(("a", 3), "c")], [(("a", -1), "c")],
        [(("c", 1), "a")], [(("b", 2), "c")], [(("a", True), "c")], [(("b", True), "c")], [(("a", "1"), "c")],
        [(("a", None), "c")], [(("a", [1]), "c")], [(("a", 10 ** 17), "c")], [(("a", 1), ["c"])], [(("a", 1), None)],
        [(("a", 1), 1)], [(("a", 1), b"c")], [(["a", 1], "c")], [[("a", 1), "c"]], [(("a", 1), "c", 1)], [(("a", 1),)],
        [(("a",), "c")], [(("a", 1, 1), "c")], [("a", 1, "c")], [("a1", "c")], ["ac"], [None], [1], [()], [[]], [{}],
        [(1, 2)], [((1, "a"), "c")], [((["a"], 1), "c")], [(({}, 1), "c")], [(("a", 1), {})], [((None, 1), "c")],
        [(("a", 1), "c"), (("a", 1), "c")], [(("a", 2), "c"), (("a", 1), "c")], [(("a", 1), "c"), (("a", 1), "b")],
        [(("b", 1), "c"), (("a", 1), "b")], [(("a", 1), "c"), None], [(("a", 1), "c"), (("a", 2), 2)],
    ]


def wrong_labels():
    """Return values that are not labels of the three nodes."""
    values = [(wrong, []) for wrong in wrong_counts()] + [(counts(2, 1, 0), wrong) for wrong in wrong_waitlists()]
    values += [[ZERO, []], (ZERO,), (ZERO, [], []), ([], ZERO), {0: ZERO, 1: []}, ZERO]
    return values + odd_values()


class IsLabelTest(unittest.TestCase):

    def test_labels(self):
        for value in ((ZERO, []), (counts(1, 0, 0), []), (counts(BIG, BIG, BIG), []),
                      (counts(2, 1, 0), [(("a", 1), "b"), (("a", 1), "c"), (("a", 2), "b"), (("b", 1), "a")]),
                      (counts(10, 0, 0), [(("a", 2), "c"), (("a", 10), "b")]),
                      (counts(BIG, 0, 0), [(("a", BIG - 1), "c"), (("a", BIG), "c")])):
            self.assertIs(is_label(NODES, value), True, value)

    def test_two_messages_of_a_sender_to_a_receiver(self):
        self.assertIs(is_label(NODES, (counts(2, 0, 0), [(("a", 1), "c"), (("a", 2), "c")])), True)

    def test_order_of_the_dict_is_no_matter(self):
        self.assertIs(is_label(NODES, ({"c": 0, "a": 1, "b": 0}, [(("a", 1), "b")])), True)

    def test_nodes_count(self):
        self.assertIs(is_label(["a", "b"], (ZERO, [])), False)
        self.assertIs(is_label(["a", "c"], ({"a": 1, "c": 0}, [(("a", 1), "b")])), False)
        self.assertIs(is_label(["a", "b"], ({"a": 1, "b": 0}, [(("a", 1), "b")])), True)

    def test_wrong_labels(self):
        for value in wrong_labels():
            self.assertIs(is_label(NODES, value), False, value)

    def test_made_labels(self):
        for start in range(60):
            self.assertIs(is_label(NODES, made_label(start, NODES)), True)

    def test_labels_of_runs(self):
        for nodes, run in made_runs(True):
            for node in nodes:
                self.assertIs(is_label(nodes, oracle.label(nodes, run, node)), True)


class StartTest(unittest.TestCase):

    def test_start(self):
        self.assertEqual(start_label(NODES), (ZERO, []))
        self.assertEqual(list(start_label(["a", "bb"])[0].items()), [("a", 0), ("bb", 0)])
        self.assertEqual(start_label(NODES), oracle.label(NODES, [], "a"))

    def test_start_is_a_label(self):
        self.assertIs(is_label(NODES, start_label(NODES)), True)


class SendTest(unittest.TestCase):

    def test_own_count_increases(self):
        for node, expected in (("a", counts(5, 0, 7)), ("b", counts(4, 1, 7)), ("c", counts(4, 0, 8))):
            receivers = [other for other in NODES if other != node][:1]
            self.assertEqual(label_after_send(NODES, (counts(4, 0, 7), []), node, receivers)[0], expected)

    def test_pairs_of_the_receivers_are_replaced(self):
        old = (counts(1, 1, 1), [(("a", 1), "b"), (("a", 1), "c"), (("b", 1), "c"), (("c", 1), "b")])
        self.assertEqual(label_after_send(NODES, old, "a", ["c"]),
                         (counts(2, 1, 1), [(("a", 1), "b"), (("a", 2), "c"), (("c", 1), "b")]))
        self.assertEqual(label_after_send(NODES, old, "a", ["b", "c"]),
                         (counts(2, 1, 1), [(("a", 2), "b"), (("a", 2), "c")]))

    def test_pairs_of_the_node_itself_stay(self):
        old = (counts(0, 1, 0), [(("b", 1), "a")])
        self.assertEqual(label_after_send(NODES, old, "a", ["b"]), (counts(1, 1, 0), [(("a", 1), "b"), (("b", 1), "a")]))

    def test_numbers_ascend_as_numbers(self):
        old = (counts(9, 0, 0), [(("a", 9), "b")])
        self.assertEqual(label_after_send(NODES, old, "a", ["c"])[1], [(("a", 9), "b"), (("a", 10), "c")])

    def test_big_counts(self):
        old = (counts(10 ** 17, 0, 0), [(("a", 10 ** 17), "b")])
        self.assertEqual(label_after_send(NODES, old, "a", ["b"]),
                         (counts(10 ** 17 + 1, 0, 0), [(("a", 10 ** 17 + 1), "b")]))

    def test_filled_in_ascending_order(self):
        found = label_after_send(NODES, ({"c": 3, "b": 2, "a": 1}, []), "b", ["a"])
        self.assertEqual(list(found[0].items()), [("a", 1), ("b", 3), ("c", 3)])

    def test_made_labels(self):
        for start in range(150):
            old = made_label(start, NODES)
            choices = Choices(start)
            node = choices.one_of(NODES)
            receivers = made_receivers(choices, NODES, node)
            self.assertEqual(label_after_send(NODES, old, node, receivers),
                             oracle.label_after_send(NODES, old, node, receivers))


class OpenTest(unittest.TestCase):

    def after(self, label, carried, message=("a", 5), receivers=("b",)):
        """Return the label of b after it opens the message."""
        return label_after_open(NODES, label, "b", message, list(receivers), carried)

    def test_each_count_is_the_greater_one(self):
        found = self.after((counts(9, 4, 1), []), (counts(7, 5, 2), []))
        self.assertEqual(found, (counts(9, 5, 2), []))

    def test_count_of_the_sender_is_at_least_the_number(self):
        self.assertEqual(self.after((ZERO, []), (counts(4, 0, 0), []))[0], counts(5, 0, 0))
        self.assertEqual(self.after((ZERO, []), (counts(1, 0, 0), []))[0], counts(5, 0, 0))
        self.assertEqual(self.after((ZERO, []), (counts(6, 0, 0), []))[0], counts(6, 0, 0))
        self.assertEqual(self.after((counts(5, 0, 0), []), (ZERO, []))[0], counts(5, 0, 0))
        self.assertEqual(self.after((ZERO, []), (ZERO, []), ("c", BIG))[0], counts(0, 0, BIG))

    def test_own_pair_that_the_sender_did_not_count_stays(self):
        label = (counts(0, 2, 0), [(("b", 2), "c")])
        self.assertEqual(self.after(label, (counts(4, 1, 0), []))[1], [(("b", 2), "c")])
        self.assertEqual(self.after(label, (counts(4, 2, 0), []))[1], [])
        self.assertEqual(self.after(label, (counts(4, 3, 0), []))[1], [])

    def test_carried_pair_that_the_node_did_not_count_stays(self):
        carried = (counts(4, 0, 0), [(("a", 2), "c")])
        self.assertEqual(self.after((counts(1, 0, 0), []), carried)[1], [(("a", 2), "c")])
        self.assertEqual(self.after((counts(2, 0, 0), []), carried)[1], [])
        self.assertEqual(self.after((counts(3, 0, 0), []), carried)[1], [])

    def test_counts_before_the_open_decide(self):
        carried = (counts(5, 0, 0), [(("a", 5), "c")])
        self.assertEqual(self.after((counts(4, 0, 0), []), carried)[1], [(("a", 5), "c")])

    def test_pair_of_both_stays(self):
        label = (counts(3, 0, 0), [(("a", 2), "c")])
        carried = (counts(4, 0, 0), [(("a", 2), "c")])
        self.assertEqual(self.after(label, carried)[1], [(("a", 2), "c")])

    def test_only_the_very_pair_counts_as_in_both(self):
        label = (counts(3, 0, 0), [(("a", 2), "c")])
        carried = (counts(4, 0, 0), [(("a", 3), "c")])
        self.assertEqual(self.after(label, carried)[1], [])

    def test_pairs_of_the_node_go(self):
        label = (counts(3, 0, 1), [(("a", 3), "b"), (("c", 1), "b")])
        carried = (counts(4, 0, 1), [(("a", 3), "b"), (("a", 4), "b")])
        self.assertEqual(self.after(label, carried)[1], [])
        label = (counts(9, 0, 0), [(("a", 9), "b")])
        self.assertEqual(self.after(label, carried)[1], [])

    def test_carried_pairs_of_the_receivers_go(self):
        carried = (counts(4, 0, 0), [(("a", 4), "c")])
        self.assertEqual(self.after((ZERO, []), carried, receivers=("b", "c"))[1], [(("a", 5), "c")])
        label = (counts(4, 0, 0), [(("a", 4), "c")])
        self.assertEqual(self.after(label, carried, receivers=("b", "c"))[1], [(("a", 5), "c")])

    def test_own_pairs_of_the_receivers_stay(self):
        label = (counts(0, 1, 0), [(("b", 1), "c")])
        self.assertEqual(self.after(label, (counts(4, 0, 0), []), receivers=("b", "c"))[1],
                         [(("a", 5), "c"), (("b", 1), "c")])

    def test_pair_of_the_message_is_added_once(self):
        label = (counts(5, 0, 0), [(("a", 5), "c")])
        self.assertEqual(self.after(label, (counts(4, 0, 0), []), receivers=("b", "c"))[1], [(("a", 5), "c")])
        carried = (counts(5, 0, 0), [(("a", 5), "c")])
        self.assertEqual(self.after((ZERO, []), carried, receivers=("b", "c"))[1], [(("a", 5), "c")])
        self.assertEqual(self.after(label, carried, receivers=("b", "c"))[1], [(("a", 5), "c")])

    def test_several_messages_of_a_sender_to_a_receiver(self):
        label = (counts(3, 1, 0), [(("a", 1), "c"), (("a", 2), "c"), (("a", 3), "c"), (("b", 1), "c")])
        carried = (counts(2, 0, 0), [(("a", 2), "c")])
        self.assertEqual(self.after(label, carried)[1], [(("a", 2), "c"), (("a", 3), "c"), (("b", 1), "c")])

    def test_nothing_else_is_checked(self):
        label = (counts(9, 0, 0), [])
        self.assertEqual(self.after(label, (counts(9, 9, 9), []), ("a", 1), ("b", "c")),
                         (counts(9, 9, 9), [(("a", 1), "c")]))

    def test_filled_in_ascending_order(self):
        found = self.after(({"c": 1, "b": 2, "a": 3}, []), ({"b": 0, "c": 0, "a": 0}, []))
        self.assertEqual(list(found[0].items()), [("a", 5), ("b", 2), ("c", 1)])

    def test_made_labels(self):
        sizes = set()
        for start in range(400):
            choices = Choices(start)
            nodes = choices.some_of(["a", "b", "c", "d"], 2 + choices.below(3))
            node, sender = choices.some_of(nodes, 2)[::choices.one_of([1, -1])]
            label, carried = made_label(2 * start, nodes), made_label(3 * start + 1, nodes)
            receivers = [other for other in nodes if other == node or other != sender and choices.below(2)]
            message = (sender, 1 + choices.below(choices.one_of([4, 10 ** 17])))
            found = label_after_open(nodes, label, node, message, receivers, carried)
            self.assertEqual(found, oracle.label_after_open(nodes, label, node, message, receivers, carried))
            self.assertEqual(list(found[0]), nodes)
            self.assertIs(is_label(nodes, found), True)
            sizes.add(len(found[1]))
        self.assertGreater(len(sizes), 8)


class LabelsOfRunsTest(unittest.TestCase):

    def test_labels_event_by_event(self):
        many = 0
        for nodes, run in made_runs(True):
            labels = {node: start_label(nodes) for node in nodes}
            carried = {}
            receivers_of = {}
            for index, (kind, node, detail) in enumerate(run):
                if kind == "send":
                    message = (node, labels[node][0][node] + 1)
                    carried[message], receivers_of[message] = labels[node], detail
                    labels[node] = label_after_send(nodes, labels[node], node, detail)
                else:
                    labels[node] = label_after_open(nodes, labels[node], node, detail, receivers_of[detail], carried[detail])
                self.assertEqual(labels[node], oracle.label(nodes, run[:index + 1], node))
                many += 1
        self.assertGreater(many, 600)


class LabelsErrorsTest(unittest.TestCase):

    def calls(self):
        """Return (function, right arguments, errors in their order, one for each argument)."""
        label = (counts(1, 0, 0), [(("a", 1), "c")])
        return [
            (is_label, (NODES, label), [InvalidNodes]),
            (start_label, (NODES,), [InvalidNodes]),
            (label_after_send, (NODES, label, "b", ["c"]), [InvalidNodes, InvalidLabel, UnknownNode, InvalidReceivers]),
            (label_after_open, (NODES, label, "b", ("a", 2), ["b"], label),
             [InvalidNodes, InvalidLabel, UnknownNode, UnknownMessage, InvalidReceivers, InvalidLabel]),
        ]

    def assert_error(self, error, function, arguments):
        before = copy.deepcopy(arguments)
        with self.assertRaises(error) as caught:
            function(*arguments)
        self.assertIs(caught.exception.__class__, error)
        self.assertIsInstance(caught.exception, WaitError)
        self.assertEqual(arguments, before)

    def test_one_wrong_argument(self):
        for function, arguments, errors in self.calls():
            for at, error in enumerate(errors):
                self.assert_error(error, function, arguments[:at] + (None,) + arguments[at + 1:])

    def test_first_error_wins(self):
        for function, arguments, errors in self.calls():
            for at, error in enumerate(errors):
                for later in range(at + 1, len(errors)):
                    wrong = list(arguments)
                    wrong[at] = wrong[later] = None
                    self.assert_error(error, function, tuple(wrong))

    def test_any_value_as_nodes(self):
        for value in odd_values() + [None, ["a"], ("a", "b", "c")]:
            for function, arguments, _ in self.calls():
                self.assertRaises(InvalidNodes, function, value, *arguments[1:])

    def test_any_value_as_label(self):
        carried = (ZERO, [])
        for value in wrong_labels():
            self.assertRaises(InvalidLabel, label_after_send, NODES, value, "b", ["c"])
            self.assertRaises(InvalidLabel, label_after_open, NODES, value, "b", ("a", 1), ["b"], carried)
            self.assertRaises(InvalidLabel, label_after_open, NODES, carried, "b", ("a", 1), ["b"], value)

    def test_any_value_as_node(self):
        label = (ZERO, [])
        for value in odd_values():
            self.assertRaises(UnknownNode, label_after_send, NODES, label, value, ["c"])
            self.assertRaises(UnknownNode, label_after_open, NODES, label, value, ("a", 1), ["b"], label)

    def test_any_value_as_receivers(self):
        label = (ZERO, [])
        for value in odd_values() + [["b"], ["a", "b"], ["c", "a"], ["a", "a"], ["d"], [], ("a", "c"), "ac", [None], ["a", 1]]:
            if value != ["a"]:
                self.assertRaises(InvalidReceivers, label_after_send, NODES, label, "b", value)
        for value in odd_values() + [["c"], ["a", "b"], ["c", "b"], ["b", "b"], [], ("b", "c"), "b", ["b", True], ["b", "d"]]:
            self.assertRaises(InvalidReceivers, label_after_open, NODES, label, "b", ("a", 1), value, label)

    def test_any_value_as_message(self):
        label = (ZERO, [])
        known = [("a", 1), ("a", 3), ("c", 1)]
        for value in odd_values() + [("b", 1), ("a", 0), ("a", -1), ("a", True), ("d", 1), ["a", 1], ("a", 1, 1), ("a",)]:
            if not isinstance(value, tuple) or value not in known or value[1] is True:
                self.assertRaises(UnknownMessage, label_after_open, NODES, label, "b", value, ["b"], label)

    def test_message_may_have_any_number(self):
        for number in (1, 2, 10 ** 17, BIG):
            found = label_after_open(NODES, (ZERO, []), "b", ("a", number), ["b"], (ZERO, []))
            self.assertEqual(found, (counts(number, 0, 0), []))


if __name__ == "__main__":
    unittest.main()

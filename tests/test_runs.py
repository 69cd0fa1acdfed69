"""waitlists/runs.py: points 2, 3 and 6 to 8."""

import unittest

from tests import oracle
from tests.samples import NODES, odd_values, made_runs, sample_run
from waitlists.errors import InvalidNodes, InvalidRun, UnknownMessage, UnknownNode
from waitlists.runs import is_nodes, is_run, messages_of, open_index, send_index

ALL_TWELVE = list("abcdefghijkl")


class NodesTest(unittest.TestCase):

    def test_nodes(self):
        for value in (["a", "b"], ["a", "aa"], ["abcdefgh", "z"], ["az", "b"], ALL_TWELVE):
            self.assertIs(is_nodes(value), True, value)

    def test_too_few_or_too_many(self):
        for value in ([], ["a"], list("abcdefghijklm")):
            self.assertIs(is_nodes(value), False, value)

    def test_order_and_duplicates(self):
        for value in (["b", "a"], ["a", "a"], ["a", "b", "b"], ["a", "c", "b"], ["aa", "a"]):
            self.assertIs(is_nodes(value), False, value)

    def test_names(self):
        for name in ("", "bcdefghij", "B", "b1", "b b", "b_", "b\n", "`", "{", "\u00e9", "\uff42", b"b", 1, None, ["b"]):
            self.assertIs(is_nodes(["a", name]), False, name)
        self.assertIs(is_nodes(["a", "bcdefghi"]), True)
        for value in (["A", "B"], ["A", "b"], ["a", "bC"], ["1", "a"], ["a", "b1"], [" ", "a"], ["a", "a b"], ["a", "\u00e9e"]):
            self.assertIs(is_nodes(value), False, value)

    def test_tuple_is_not_a_list(self):
        self.assertIs(is_nodes(("a", "b")), False)

    def test_any_value(self):
        for value in odd_values():
            self.assertIs(is_nodes(value), False, value)


class RunTest(unittest.TestCase):

    def assert_run(self, expected, *events, nodes=NODES):
        self.assertIs(is_run(nodes, list(events)), expected, events)

    def test_empty_run(self):
        self.assert_run(True)

    def test_sample_and_made_runs(self):
        self.assertIs(is_run(NODES, sample_run()), True)
        for causal in (True, False):
            for nodes, run in made_runs(causal):
                self.assertIs(is_run(nodes, run), True)

    def test_send(self):
        self.assert_run(True, ("send", "a", ["b"]))
        self.assert_run(True, ("send", "b", ["a", "c"]))
        for receivers in ([], ["a"], ["a", "b"], ["c", "b"], ["b", "b"], ["d"], ["b", 1], [True], ["b", ["c"]], ("b",),
                          "b", {"b": 1}, {"b"}, None, 1, ["b", None], [b"b"], [[]], [{}]):
            self.assert_run(False, ("send", "a", receivers))
        for node in ("d", "", "A", None, 1, True, ["a"], ("a",), {}, b"a"):
            self.assert_run(False, ("send", node, ["b"]))

    def test_wrong_send_after_a_right_one(self):
        for receivers in (["b"], ["b", "c"]):
            send = ("send", "a", receivers)
            self.assert_run(True, send, ("send", "a", list(receivers)), ("send", "a", ["c"]), send)
            self.assert_run(False, send, ("send", "b", receivers))
            for wrong in (tuple(receivers), receivers + ["b"], receivers[::-1] + ["a"], receivers + [True], [], None, "b",
                          {"b": 1}, [["b"]], receivers + [None], [b"b"]):
                self.assert_run(False, send, ("send", "a", wrong))
                self.assert_run(False, send, send, ("send", "a", wrong), send)
            self.assert_run(False, send, ["send", "a", receivers])

    def test_many_receivers(self):
        for at in range(11):
            receivers = ALL_TWELVE[1:]
            self.assert_run(True, ("send", "a", receivers), ("send", "a", receivers), nodes=ALL_TWELVE)
            receivers[at] = "a"
            self.assert_run(False, ("send", "a", ALL_TWELVE[1:]), ("send", "a", receivers), nodes=ALL_TWELVE)
            receivers[at] = "m"
            self.assert_run(False, ("send", "a", ALL_TWELVE[1:]), ("send", "a", receivers), nodes=ALL_TWELVE)

    def test_open(self):
        send = ("send", "a", ["b"])
        self.assert_run(True, send, ("open", "b", ("a", 1)))
        self.assert_run(False, send, ("open", "c", ("a", 1)))
        self.assert_run(False, send, ("open", "a", ("a", 1)))
        for message in (("a", 0), ("a", 2), ("a", -1), ("b", 1), ("d", 1), ["a", 1], ("a", True), ("a", "1"), ("a",), "a",
                        ("a", 1, 1), (("a", 1),), (["a"], 1), ("a", [1]), ({}, {}), {}, [], None, 1, (1, "a"), ("a", None)):
            self.assert_run(False, send, ("open", "b", message))
        for node in ("d", "", None, 1, True, ["b"], ("b",), {}, b"b"):
            self.assert_run(False, send, ("open", node, ("a", 1)))

    def test_open_before_the_send(self):
        self.assert_run(False, ("open", "b", ("a", 1)), ("send", "a", ["b"]))
        self.assert_run(False, ("send", "a", ["b"]), ("open", "b", ("a", 2)), ("send", "a", ["b"]))

    def test_opened_twice(self):
        send = ("send", "a", ["b", "c"])
        self.assert_run(True, send, ("open", "b", ("a", 1)), ("open", "c", ("a", 1)))
        self.assert_run(False, send, ("open", "b", ("a", 1)), ("open", "b", ("a", 1)))

    def test_overtaking_is_no_matter(self):
        self.assert_run(True, ("send", "a", ["b"]), ("send", "a", ["b"]), ("open", "b", ("a", 2)), ("open", "b", ("a", 1)))

    def test_numbers_are_by_sender(self):
        sends = [("send", "a", ["c"]), ("send", "b", ["c"]), ("send", "a", ["b"])]
        self.assert_run(True, *sends, ("open", "b", ("a", 2)), ("open", "c", ("b", 1)))
        self.assert_run(False, *sends, ("open", "c", ("b", 2)))

    def test_form_of_events(self):
        for event in (["send", "a", ["b"]], ("send", "a"), ("send", "a", ["b"], 1), ("Send", "a", ["b"]), ("", "a", ["b"]),
                      ("receive", "a", ["b"]), (None, "a", ["b"]), (["send"], "a", ["b"]), ({}, "a", ["b"]), (),
                      (True, "a", ["b"]), ("send", ["b"], "a"), "send", (("send", "a", ["b"]),), b"send"):
            self.assert_run(False, event)
        for kind in ("close", "Open", "", "send", None, ["open"], {}, True, b"open"):
            self.assert_run(False, ("send", "a", ["b"]), (kind, "b", ("a", 1)))

    def test_kinds_of_details_are_not_mixed_up(self):
        self.assert_run(False, ("send", "a", ["b"]), ("send", "b", ("a", 1)))
        self.assert_run(False, ("send", "a", ["b"]), ("open", "b", ["a"]))

    def test_tuple_of_events_is_not_a_run(self):
        self.assertIs(is_run(NODES, tuple(sample_run())), False)
        self.assertIs(is_run(NODES, ()), False)

    def test_nodes_count(self):
        self.assert_run(False, ("send", "a", ["c"]), nodes=["a", "b"])
        self.assert_run(True, ("send", "a", ["c"]), nodes=["a", "c"])

    def test_any_value(self):
        for value in odd_values():
            self.assertIs(is_run(NODES, value), value == [] and isinstance(value, list), value)
            self.assertIs(is_run(NODES, [value]), value == ("send", "a", ["b"]), value)
            self.assertIs(is_run(NODES, sample_run() + [value]),
                          value in (("send", "a", ["b"]),) and isinstance(value, tuple), value)

    def test_invalid_nodes(self):
        for value in odd_values():
            with self.assertRaises(InvalidNodes):
                is_run(value, sample_run())
            with self.assertRaises(InvalidNodes):
                is_run(value, None)


class MessagesTest(unittest.TestCase):

    def test_all_messages_with_receivers(self):
        self.assertEqual(messages_of(NODES, []), {})
        self.assertEqual(messages_of(NODES, sample_run()), {("a", 1): ["c"], ("a", 2): ["b"], ("b", 1): ["c"]})

    def test_filled_in_ascending_order(self):
        run = [("send", "b", ["a"]), ("send", "a", ["b"])] + [("send", "a", ["c"])] * 10
        expected = [("a", number) for number in range(1, 12)] + [("b", 1)]
        self.assertEqual(list(messages_of(NODES, run)), expected)

    def test_made_runs(self):
        for nodes, run in made_runs(False):
            sends = oracle.sent_messages(run)
            found = messages_of(nodes, run)
            self.assertEqual(found, {message: run[sends[message]][2] for message in sends})
            self.assertEqual(list(found), sorted(found))

    def test_errors(self):
        for value in odd_values():
            with self.assertRaises(InvalidNodes):
                messages_of(value, None)
            if value != []:
                with self.assertRaises(InvalidRun):
                    messages_of(NODES, value)


class IndexTest(unittest.TestCase):

    def test_send_index(self):
        run = sample_run()
        self.assertEqual([send_index(NODES, run, m) for m in (("a", 1), ("a", 2), ("b", 1))], [0, 1, 3])

    def test_open_index(self):
        run = sample_run() + [("open", "c", ("b", 1))]
        self.assertEqual(open_index(NODES, run, ("a", 2), "b"), 2)
        self.assertEqual(open_index(NODES, run, ("b", 1), "c"), 4)
        self.assertIsNone(open_index(NODES, run, ("a", 1), "c"))

    def test_open_index_where_the_node_is_not_a_receiver(self):
        self.assertIsNone(open_index(NODES, sample_run(), ("a", 1), "b"))
        self.assertIsNone(open_index(NODES, sample_run(), ("a", 1), "a"))

    def test_open_index_of_each_receiver(self):
        run = [("send", "a", ["b", "c"]), ("open", "c", ("a", 1)), ("open", "b", ("a", 1))]
        self.assertEqual([open_index(NODES, run, ("a", 1), node) for node in ("b", "c")], [2, 1])

    def test_made_runs(self):
        for nodes, run in made_runs(False):
            for message, sent in oracle.sent_messages(run).items():
                self.assertEqual(send_index(nodes, run, message), sent)
                for node in nodes:
                    event = ("open", node, message)
                    expected = run.index(event) if event in run else None
                    self.assertEqual(open_index(nodes, run, message, node), expected)

    def test_unknown_message(self):
        for value in odd_values():
            with self.assertRaises(UnknownMessage):
                send_index(NODES, sample_run(), value)
            with self.assertRaises(UnknownMessage):
                open_index(NODES, sample_run(), value, "a")

    def test_unknown_node(self):
        for value in odd_values():
            with self.assertRaises(UnknownNode):
                open_index(NODES, sample_run(), ("a", 1), value)

    def test_order_of_errors(self):
        for function, arguments, errors in (
                (send_index, (NODES, sample_run(), ("a", 1)), (InvalidNodes, InvalidRun, UnknownMessage)),
                (open_index, (NODES, sample_run(), ("a", 1), "b"),
                 (InvalidNodes, InvalidRun, UnknownMessage, UnknownNode))):
            for at, error in enumerate(errors):
                wrong = arguments[:at] + (None,) * (len(arguments) - at)
                with self.assertRaises(error):
                    function(*wrong)


if __name__ == "__main__":
    unittest.main()

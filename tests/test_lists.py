"""waitlists/lists.py: points 12, 13 and 18."""

import unittest

from tests import oracle
from tests.samples import NODES, early_run, odd_values, made_runs, sample_run
from waitlists.errors import InvalidNodes, InvalidRun, NotCausal, UnknownMessage, UnknownNode
from waitlists.lists import known_counts, label_of_message, waitlist_of


def everybody_to_everybody(nodes):
    """Return a causal run in which the first node gets to know a message of each node to all others."""
    run = [("send", node, [other for other in nodes if other != node]) for node in nodes]
    return run + [("open", nodes[0], (node, 1)) for node in nodes[1:]]


class CountsTest(unittest.TestCase):

    def test_no_events(self):
        self.assertEqual(known_counts(NODES, [], "a"), {"a": 0, "b": 0, "c": 0})
        self.assertEqual(known_counts(NODES, sample_run(), "c"), {"a": 0, "b": 0, "c": 0})

    def test_own_and_others(self):
        self.assertEqual(known_counts(NODES, sample_run(), "a"), {"a": 2, "b": 0, "c": 0})
        self.assertEqual(known_counts(NODES, sample_run(), "b"), {"a": 2, "b": 1, "c": 0})

    def test_filled_in_ascending_order(self):
        run = [("send", "c", ["b"]), ("open", "b", ("c", 1)), ("send", "b", ["a"])]
        self.assertEqual(list(known_counts(NODES, run, "b").items()), [("a", 0), ("b", 1), ("c", 1)])

    def test_made_runs(self):
        for nodes, run in made_runs(True):
            for node in nodes:
                found = known_counts(nodes, run, node)
                self.assertEqual(found, oracle.counts(nodes, run, node))
                self.assertEqual(list(found), nodes)


class WaitlistTest(unittest.TestCase):

    def test_no_events(self):
        self.assertEqual(waitlist_of(NODES, [], "a"), [])
        self.assertEqual(waitlist_of(NODES, sample_run(), "c"), [])

    def test_a_pair_for_each_receiver(self):
        run = [("send", "b", ["a", "c"])]
        self.assertEqual(waitlist_of(NODES, run, "b"), [(("b", 1), "a"), (("b", 1), "c")])

    def test_later_message_covers(self):
        run = [("send", "a", ["b"]), ("send", "a", ["c"]), ("send", "a", ["b"])]
        self.assertEqual(waitlist_of(NODES, run, "a"), [(("a", 2), "c"), (("a", 3), "b")])

    def test_later_message_of_another_sender_covers(self):
        self.assertEqual(waitlist_of(NODES, sample_run()[:3], "b"), [(("a", 1), "c")])
        self.assertEqual(waitlist_of(NODES, sample_run(), "b"), [(("b", 1), "c")])

    def test_a_cover_that_the_node_does_not_know_is_no_matter(self):
        self.assertEqual(waitlist_of(NODES, sample_run(), "a"), [(("a", 1), "c"), (("a", 2), "b")])

    def test_known_open_ends_the_wait(self):
        run = [("send", "a", ["c"]), ("open", "c", ("a", 1))]
        self.assertEqual(waitlist_of(NODES, run, "a"), [(("a", 1), "c")])
        self.assertEqual(waitlist_of(NODES, run, "c"), [])
        run += [("send", "c", ["a"]), ("open", "a", ("c", 1))]
        self.assertEqual(waitlist_of(NODES, run, "a"), [])

    def test_concurrent_messages_both_wait(self):
        run = [("send", "a", ["c"]), ("send", "b", ["a", "c"]), ("open", "a", ("b", 1))]
        self.assertEqual(waitlist_of(NODES, run, "a"), [(("a", 1), "c"), (("b", 1), "c")])

    def test_numbers_ascend_as_numbers(self):
        run = [("send", "a", ["b"])] * 2 + [("send", "a", ["b", "c"])] + [("send", "a", ["b"])] * 8
        self.assertEqual(waitlist_of(NODES, run, "a"), [(("a", 3), "c"), (("a", 11), "b")])

    def test_made_runs(self):
        sizes = []
        for nodes, run in made_runs(True):
            for node in nodes:
                found = waitlist_of(nodes, run, node)
                self.assertEqual(found, oracle.waitlist(run, node))
                sizes.append(len(found))
        self.assertGreater(max(sizes), 5)


class SizeTest(unittest.TestCase):

    def test_each_waitlist_is_small(self):
        for nodes, run in made_runs(True):
            for node in nodes:
                found = waitlist_of(nodes, run, node)
                self.assertNotIn(node, [receiver for _, receiver in found])
                places = [(receiver, message[0]) for message, receiver in found]
                self.assertEqual(len(places), len(set(places)))
                self.assertLessEqual(len(found), (len(nodes) - 1) ** 2)
                self.assertEqual(found, sorted(set(found)))

    def test_the_bound_is_reached(self):
        for many in range(2, 13):
            nodes = list("abcdefghijkl")[:many]
            run = everybody_to_everybody(nodes)
            expected = [((node, 1), other) for node in nodes for other in nodes[1:] if other != node]
            self.assertEqual(waitlist_of(nodes, run, "a"), expected)
            self.assertEqual(len(expected), (many - 1) ** 2)


class LabelTest(unittest.TestCase):

    def test_first_message(self):
        self.assertEqual(label_of_message(NODES, sample_run(), ("a", 1)), ({"a": 0, "b": 0, "c": 0}, []))

    def test_the_message_itself_does_not_count(self):
        self.assertEqual(label_of_message(NODES, sample_run(), ("a", 2)), ({"a": 1, "b": 0, "c": 0}, [(("a", 1), "c")]))
        self.assertEqual(label_of_message(NODES, sample_run(), ("b", 1)), ({"a": 2, "b": 0, "c": 0}, [(("a", 1), "c")]))

    def test_later_events_do_not_count(self):
        run = sample_run() + [("open", "c", ("a", 1)), ("send", "c", ["b"]), ("open", "b", ("c", 1))]
        self.assertEqual(label_of_message(NODES, run, ("b", 1)), ({"a": 2, "b": 0, "c": 0}, [(("a", 1), "c")]))
        self.assertEqual(label_of_message(NODES, run, ("c", 1)), ({"a": 1, "b": 0, "c": 0}, []))

    def test_made_runs(self):
        for nodes, run in made_runs(True):
            for message, sent in oracle.sent_messages(run).items():
                label = label_of_message(nodes, run, message)
                self.assertIsInstance(label, tuple)
                before = run[:sent]
                self.assertEqual(label, (oracle.counts(nodes, before, message[0]), oracle.waitlist(before, message[0])))
                self.assertEqual(list(label[0]), nodes)


class ListsErrorsTest(unittest.TestCase):

    def test_not_causal_has_the_first_index(self):
        run = early_run() + [("send", "a", ["b"]), ("send", "a", ["b"]), ("open", "b", ("a", 4))]
        for function, rest in ((known_counts, "a"), (waitlist_of, "a"), (label_of_message, ("a", 1))):
            with self.assertRaises(NotCausal) as caught:
                function(NODES, run, rest)
            self.assertEqual(caught.exception.index, 4)

    def test_label_of_a_message_before_the_early_open_is_refused_too(self):
        with self.assertRaises(NotCausal):
            label_of_message(NODES, early_run(), ("a", 1))

    def test_order_of_errors(self):
        for function in (known_counts, waitlist_of, label_of_message):
            with self.assertRaises(InvalidNodes):
                function(None, None, None)
            with self.assertRaises(InvalidNodes):
                function(["b", "a"], early_run(), None)
            with self.assertRaises(InvalidRun):
                function(NODES, None, None)
            with self.assertRaises(InvalidRun):
                function(NODES, early_run() + [None], None)
            with self.assertRaises(NotCausal):
                function(NODES, early_run(), None)

    def test_any_value(self):
        for value in odd_values():
            for function, error in ((known_counts, UnknownNode), (waitlist_of, UnknownNode),
                                    (label_of_message, UnknownMessage)):
                with self.assertRaises(error):
                    function(NODES, sample_run(), value)
                with self.assertRaises(NotCausal):
                    function(NODES, early_run(), value)
                with self.assertRaises(InvalidNodes):
                    function(value, sample_run(), "a")
                if value != []:
                    with self.assertRaises(InvalidRun):
                        function(NODES, value, "a")


if __name__ == "__main__":
    unittest.main()

"""waitlists/order.py: points 9 to 11."""

import unittest

from tests import oracle
from tests.samples import NODES, early_run, odd_values, made_runs, sample_run
from waitlists.errors import InvalidIndex, InvalidNodes, InvalidRun, UnknownNode
from waitlists.order import (first_early_open, happens_before, is_causal, is_path, past_events, path_between,
                             same_past)


class HappensBeforeTest(unittest.TestCase):

    def test_same_node(self):
        self.assertIs(happens_before(NODES, sample_run(), 0, 1), True)
        self.assertIs(happens_before(NODES, sample_run(), 1, 0), False)

    def test_message(self):
        run = [("send", "b", ["a"]), ("send", "a", ["b"]), ("open", "b", ("a", 1)), ("open", "a", ("b", 1))]
        self.assertIs(happens_before(NODES, run, 1, 2), True)
        self.assertIs(happens_before(NODES, run, 0, 3), True)
        self.assertIs(happens_before(NODES, run, 2, 3), False)
        self.assertIs(happens_before(NODES, run, 0, 1), False)

    def test_no_event_happens_before_itself(self):
        for index in range(4):
            self.assertIs(happens_before(NODES, sample_run(), index, index), False)

    def test_send_without_open_leads_nowhere(self):
        run = [("send", "a", ["b"]), ("send", "b", ["a"])]
        self.assertIs(happens_before(NODES, run, 0, 1), False)

    def test_made_runs(self):
        for causal in (True, False):
            for nodes, run in made_runs(causal)[::3]:
                before = oracle.earlier_events(run)
                for first in range(len(run)):
                    for second in range(len(run)):
                        self.assertIs(happens_before(nodes, run, first, second), first in before[second])


class PastTest(unittest.TestCase):

    def test_node_without_events(self):
        self.assertEqual(past_events(NODES, sample_run(), "c"), [])
        self.assertEqual(past_events(NODES, [], "a"), [])

    def test_last_event_is_included(self):
        self.assertEqual(past_events(NODES, sample_run(), "a"), [0, 1])
        self.assertEqual(past_events(NODES, sample_run(), "b"), [0, 1, 2, 3])

    def test_later_events_of_others_are_not(self):
        run = sample_run() + [("send", "a", ["b"]), ("open", "c", ("a", 1))]
        self.assertEqual(past_events(NODES, run, "b"), [0, 1, 2, 3])
        self.assertEqual(past_events(NODES, run, "c"), [0, 5])

    def test_made_runs(self):
        for causal in (True, False):
            for nodes, run in made_runs(causal):
                for node in nodes:
                    self.assertEqual(past_events(nodes, run, node), sorted(oracle.past(run, node)))


class PathTest(unittest.TestCase):

    def test_one_event(self):
        for index in range(4):
            self.assertEqual(path_between(NODES, sample_run(), index, index), [index])

    def test_no_path(self):
        self.assertIsNone(path_between(NODES, sample_run(), 3, 0))
        self.assertIsNone(path_between(NODES, [("send", "a", ["b"]), ("send", "b", ["a"])], 0, 1))

    def test_path_over_a_message(self):
        self.assertEqual(path_between(NODES, sample_run(), 0, 3), [0, 1, 2, 3])
        self.assertEqual(path_between(NODES, sample_run(), 1, 2), [1, 2])

    def test_path_passes_by_messages_that_began_elsewhere(self):
        run = [("send", "c", ["b"]), ("send", "a", ["b"]), ("open", "b", ("a", 1)), ("open", "b", ("c", 1))]
        self.assertEqual(path_between(NODES, run, 1, 3), [1, 2, 3])

    def test_made_runs(self):
        for causal in (True, False):
            for nodes, run in made_runs(causal)[::3]:
                before = oracle.earlier_events(run)
                for first in range(len(run)):
                    for second in range(len(run)):
                        path = path_between(nodes, run, first, second)
                        if first != second and first not in before[second]:
                            self.assertIsNone(path)
                            continue
                        self.assertEqual((path[0], path[-1]), (first, second))
                        self.assertTrue(all(oracle.is_step(run, k, m) for k, m in zip(path, path[1:])))
                        self.assertIs(is_path(nodes, run, path), True)


class IsPathTest(unittest.TestCase):

    def test_paths(self):
        for value in ([0], [3], [0, 1], [1, 2, 3], [0, 1, 2, 3], [2, 3], [1, 2]):
            self.assertIs(is_path(NODES, sample_run(), value), True, value)

    def test_steps_may_pass_over_events_of_the_node(self):
        run = [("send", "a", ["b"])] * 5
        self.assertIs(is_path(NODES, run, [0, 2, 4]), True)

    def test_no_paths(self):
        for value in ([0, 2], [1, 3], [0, 3], [1, 0], [0, 0], [1, 2, 2], [3, 2], [2, 1], [0, 1, 3]):
            self.assertIs(is_path(NODES, sample_run(), value), False, value)

    def test_only_the_opened_message_makes_a_step(self):
        run = [("send", "a", ["b"]), ("send", "c", ["b"]), ("open", "b", ("c", 1)), ("open", "b", ("a", 1))]
        self.assertIs(is_path(NODES, run, [0, 2]), False)
        self.assertIs(is_path(NODES, run, [0, 3]), True)
        self.assertIs(is_path(NODES, run, [1, 2]), True)

    def test_two_opens_of_a_message_make_no_step(self):
        run = [("send", "a", ["b", "c"]), ("open", "b", ("a", 1)), ("open", "c", ("a", 1))]
        self.assertIs(is_path(NODES, run, [1, 2]), False)

    def test_wrong_entries(self):
        for entry in (-1, 4, 5, True, False, None, "0", "a", [0], (0,), {}, 10 ** 17, b"0"):
            self.assertIs(is_path(NODES, sample_run(), [entry]), False, entry)
            self.assertIs(is_path(NODES, sample_run(), [0, entry]), False, entry)
        self.assertIs(is_path(NODES, sample_run(), [0, -3]), False)

    def test_wrong_kinds(self):
        for value in ([], (), (0, 1), (0,), 0, "01", None, {0: 1}, {0}, range(2)):
            self.assertIs(is_path(NODES, sample_run(), value), False, value)
        self.assertIs(is_path(NODES, [], [0]), False)

    def test_any_value(self):
        for value in odd_values():
            self.assertIs(is_path(NODES, sample_run(), value), value == [1, 2], value)


class SamePastTest(unittest.TestCase):

    def test_document_example(self):
        run = sample_run()
        self.assertEqual([same_past(NODES, run, run[:2], node) for node in NODES], [True, False, True])

    def test_order_of_events_of_different_nodes_is_no_matter(self):
        run = [("send", "a", ["c"]), ("send", "b", ["c"]), ("open", "c", ("a", 1)), ("open", "c", ("b", 1))]
        other = [run[1], run[0], run[2], run[3]]
        for node in NODES:
            self.assertIs(same_past(NODES, run, other, node), True)

    def test_order_of_events_of_one_node_counts(self):
        run = [("send", "a", ["c"]), ("send", "b", ["c"]), ("open", "c", ("a", 1)), ("open", "c", ("b", 1))]
        other = [run[0], run[1], run[3], run[2]]
        self.assertEqual([same_past(NODES, run, other, node) for node in NODES], [True, True, False])

    def test_receivers_and_messages_count(self):
        self.assertIs(same_past(NODES, [("send", "a", ["b"])], [("send", "a", ["c"])], "a"), False)
        self.assertIs(same_past(NODES, [("send", "a", ["b"])], [("send", "a", ["c"])], "b"), True)
        sends = [("send", "a", ["b"]), ("send", "a", ["b"])]
        runs = [sends + [("open", "b", ("a", 1))], sends + [("open", "b", ("a", 2))]]
        self.assertIs(same_past(NODES, runs[0], runs[1], "b"), False)

    def test_made_runs(self):
        rows = made_runs(False)
        for at, (nodes, run) in enumerate(rows):
            others = [run[:len(run) // 2], run[:-1], list(run)] + [row[1] for row in rows[at:at + 9] if row[0] == nodes]
            for other in others:
                for node in nodes:
                    self.assertIs(same_past(nodes, run, other, node), oracle.same_past(nodes, run, other, node))


class EarlyTest(unittest.TestCase):

    def test_first_early_open(self):
        self.assertIsNone(first_early_open(NODES, []))
        self.assertIsNone(first_early_open(NODES, sample_run()))
        self.assertEqual(first_early_open(NODES, early_run()), 4)

    def test_the_first_of_several(self):
        run = [("send", "a", ["b"]), ("send", "a", ["b"]), ("send", "a", ["b"]), ("open", "b", ("a", 2)),
               ("open", "b", ("a", 3)), ("open", "b", ("a", 1))]
        self.assertEqual(first_early_open(NODES, run), 3)
        self.assertIs(is_causal(NODES, run), False)

    def test_open_of_the_earlier_message_first(self):
        run = sample_run() + [("open", "c", ("a", 1)), ("open", "c", ("b", 1))]
        self.assertIs(is_causal(NODES, run), True)

    def test_opened_later_is_too_late(self):
        run = early_run() + [("open", "c", ("a", 1))]
        self.assertEqual(first_early_open(NODES, run), 4)

    def test_concurrent_messages_may_be_opened_in_any_order(self):
        sends = [("send", "a", ["c"]), ("send", "b", ["c"])]
        opens = [("open", "c", ("a", 1)), ("open", "c", ("b", 1))]
        self.assertIs(is_causal(NODES, sends + opens), True)
        self.assertIs(is_causal(NODES, sends + opens[::-1]), True)

    def test_an_earlier_message_to_others_is_no_matter(self):
        run = [("send", "a", ["b"]), ("send", "a", ["c"]), ("open", "c", ("a", 2))]
        self.assertIs(is_causal(NODES, run), True)

    def test_open_by_another_receiver_does_not_help(self):
        run = [("send", "a", ["b", "c"]), ("send", "a", ["c"]), ("open", "b", ("a", 1)), ("open", "c", ("a", 2))]
        self.assertEqual(first_early_open(NODES, run), 3)

    def test_made_runs(self):
        for nodes, run in made_runs(True):
            self.assertIsNone(first_early_open(nodes, run))
            self.assertIs(is_causal(nodes, run), True)
        found = []
        for nodes, run in made_runs(False):
            found.append(oracle.first_early(run))
            self.assertEqual(first_early_open(nodes, run), found[-1])
            self.assertIs(is_causal(nodes, run), found[-1] is None)
        self.assertIn(None, found)
        self.assertGreater(len(set(found)), 5)


class OrderErrorsTest(unittest.TestCase):

    def test_order_of_errors(self):
        run = sample_run()
        for function, arguments, errors in (
                (happens_before, (NODES, run, 0, 1), (InvalidNodes, InvalidRun, InvalidIndex, InvalidIndex)),
                (path_between, (NODES, run, 0, 1), (InvalidNodes, InvalidRun, InvalidIndex, InvalidIndex)),
                (past_events, (NODES, run, "a"), (InvalidNodes, InvalidRun, UnknownNode)),
                (same_past, (NODES, run, run, "a"), (InvalidNodes, InvalidRun, InvalidRun, UnknownNode)),
                (is_path, (NODES, run, [0]), (InvalidNodes, InvalidRun)),
                (first_early_open, (NODES, run), (InvalidNodes, InvalidRun)),
                (is_causal, (NODES, run), (InvalidNodes, InvalidRun))):
            for at, error in enumerate(errors):
                wrong = arguments[:at] + (None,) * (len(arguments) - at)
                with self.assertRaises(error, msg=(function, at)):
                    function(*wrong)
                with self.assertRaises(error, msg=(function, at)):
                    function(*arguments[:at], None, *arguments[at + 1:])

    def test_any_value_as_nodes_or_run(self):
        for value in odd_values():
            for function, rest in ((happens_before, (0, 1)), (path_between, (0, 1)), (past_events, ("a",)),
                                   (is_path, ([0],)), (first_early_open, ()), (is_causal, ()),
                                   (same_past, ([], "a"))):
                with self.assertRaises(InvalidNodes):
                    function(value, sample_run(), *rest)
                if value != []:
                    with self.assertRaises(InvalidRun):
                        function(NODES, value, *rest)
            if value != []:
                with self.assertRaises(InvalidRun):
                    same_past(NODES, sample_run(), value, None)

    def test_any_value_as_index(self):
        for value in odd_values():
            for function in (happens_before, path_between):
                for pair in ((value, 0), (0, value), (value, value)):
                    with self.assertRaises(InvalidIndex):
                        function(NODES, sample_run(), *pair)

    def test_no_index_in_the_empty_run(self):
        for function in (happens_before, path_between):
            with self.assertRaises(InvalidIndex):
                function(NODES, [], 0, 0)

    def test_any_value_as_node(self):
        for value in odd_values():
            with self.assertRaises(UnknownNode):
                past_events(NODES, sample_run(), value)
            with self.assertRaises(UnknownNode):
                same_past(NODES, sample_run(), sample_run(), value)


if __name__ == "__main__":
    unittest.main()

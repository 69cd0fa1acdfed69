"""Points 3 and 5: arguments stay as they are, and results are new objects."""

import copy
import unittest

from tests.samples import NODES, early_run, random_runs, sample_run
from waitlists.errors import WaitError
from waitlists.lists import known_counts, label_of_message, waitlist_of
from waitlists.order import (first_early_open, happens_before, is_causal, is_path, past_events, path_between,
                             same_past)
from waitlists.runs import is_nodes, is_run, messages_of, open_index, send_index


def all_calls(nodes, run):
    """Return calls of all functions of the four files, as (function, arguments)."""
    return [
        (is_nodes, (nodes,)), (is_run, (nodes, run)), (messages_of, (nodes, run)), (send_index, (nodes, run, ("a", 1))),
        (open_index, (nodes, run, ("a", 2), "b")), (happens_before, (nodes, run, 0, 3)), (past_events, (nodes, run, "b")),
        (path_between, (nodes, run, 0, 3)), (path_between, (nodes, run, 2, 2)), (is_path, (nodes, run, [1, 2, 3])),
        (same_past, (nodes, run, run[:2], "a")), (first_early_open, (nodes, run)), (is_causal, (nodes, run)),
        (known_counts, (nodes, run, "b")), (waitlist_of, (nodes, run, "b")), (label_of_message, (nodes, run, ("b", 1))),
    ]


def lists_and_dicts(value):
    """Return the lists and dicts in a value, itself included, each as often as it appears there."""
    found = [value] if isinstance(value, (list, dict)) else []
    if isinstance(value, dict):
        value = list(value.values())
    if isinstance(value, (list, tuple)):
        for entry in value:
            found += lists_and_dicts(entry)
    return found


def ids(value):
    """Return the identities of the lists and dicts in a value."""
    return [id(each) for each in lists_and_dicts(value)]


def spoil(value):
    """Change each list and dict in a value."""
    for each in lists_and_dicts(value):
        if isinstance(each, dict):
            each["spoilt"] = 99
        else:
            each.insert(0, "spoilt")


class ArgumentsTest(unittest.TestCase):

    def assert_unchanged(self, calls):
        for function, arguments in calls:
            before = copy.deepcopy(arguments)
            try:
                function(*arguments)
            except WaitError:
                pass
            self.assertEqual(arguments, before, function)

    def test_arguments_are_unchanged(self):
        for run in (sample_run(), early_run()):
            self.assert_unchanged(all_calls(list(NODES), run))

    def test_wrong_arguments_are_unchanged(self):
        for wrong in ([("send", "a", ["b", "a"])], [["b"]], ["b", "a"], [{"a": [1]}]):
            self.assert_unchanged(all_calls(NODES, wrong) + all_calls(wrong, sample_run()))

    def test_results_are_new(self):
        run = sample_run()
        for function, arguments in all_calls(NODES, run):
            first = function(*arguments)
            expected = copy.deepcopy(first)
            second = function(*arguments)
            own = ids(first) + ids(second)
            self.assertEqual(len(own), len(set(own)), function)
            self.assertFalse(set(own) & set(ids(arguments)), function)
            spoil(first)
            self.assertEqual(second, expected, function)
            self.assertEqual(function(*arguments), expected, function)
        self.assertEqual(run, sample_run())

    def test_no_list_twice_where_the_run_has_one_twice(self):
        receivers = ["b", "c"]
        run = [("send", "a", receivers), ("send", "a", receivers)]
        found = messages_of(NODES, run)
        self.assertEqual(len(set(ids(found))), 3)
        self.assertNotIn(id(receivers), ids(found))

    def test_run_that_is_changed_in_place(self):
        rows = [run for nodes, run in random_runs(True) if nodes == NODES and len(run) > 1]
        kept = []
        for run in [sample_run(), early_run()] + rows:
            kept[:] = copy.deepcopy(run)
            for function, arguments in all_calls(NODES, kept):
                self.assertEqual(self.told(function, arguments), self.told(function, copy.deepcopy(arguments)))

    def test_receivers_that_are_changed_in_place(self):
        run = sample_run()
        self.assertEqual(waitlist_of(NODES, run, "b"), [(("b", 1), "c")])
        run[3][2][0] = "a"
        self.assertEqual(messages_of(NODES, run)[("b", 1)], ["a"])
        self.assertEqual(waitlist_of(NODES, run, "b"), [(("a", 1), "c"), (("b", 1), "a")])
        run[3][2].append("b")
        self.assertIs(is_run(NODES, run), False)

    def test_nodes_that_are_changed_in_place(self):
        nodes = ["a", "b", "c"]
        self.assertEqual(list(known_counts(nodes, sample_run(), "a")), ["a", "b", "c"])
        nodes.append("d")
        self.assertEqual(list(known_counts(nodes, sample_run(), "a")), ["a", "b", "c", "d"])
        nodes.reverse()
        self.assertIs(is_nodes(nodes), False)

    def told(self, function, arguments):
        """Return the result of a call, or the error with its fields."""
        try:
            return function(*arguments)
        except WaitError as error:
            return (error.__class__, vars(error))


if __name__ == "__main__":
    unittest.main()

"""Points 3 and 5: arguments stay as they are, and results are new objects."""

import copy
import unittest

from tests.samples import NODES, early_run, made_runs, sample_run, told
from waitlists.errors import InvalidRun, WaitError
from waitlists.labels import is_label, label_after_open, label_after_send, start_label
from waitlists.lists import known_counts, label_of_message, waitlist_of
from waitlists.needs import is_needing_run, needing_run
from waitlists.openings import (closed_messages, count_openings, is_opening, longest_run, longest_size, next_opens,
                                nth_opening)
from waitlists.order import (first_early_open, happens_before, is_causal, is_path, past_events, path_between,
                             same_past)
from waitlists.proposals import harmful_run, missing_pairs, spare_pairs
from waitlists.reasons import is_reason, reason_for
from waitlists.runs import is_nodes, is_run, messages_of, open_index, send_index
from waitlists.texts import read_pairs, read_run, show_pairs, show_run

WITHOUT_RUN = (is_nodes, is_run, is_label, start_label, label_after_send, label_after_open, longest_size, longest_run,
               read_run, show_pairs, read_pairs)


def all_calls(nodes, run):
    """Return calls of all functions of the files, as (function, arguments)."""
    pair = (("a", 1), "c")
    label, carried = ({"a": 1, "b": 0, "c": 0}, [pair]), ({"c": 0, "b": 0, "a": 2}, [pair, (("a", 2), "b")])
    return [
        (is_nodes, (nodes,)), (is_run, (nodes, run)), (messages_of, (nodes, run)), (send_index, (nodes, run, ("a", 1))),
        (open_index, (nodes, run, ("a", 2), "b")), (happens_before, (nodes, run, 0, 3)), (past_events, (nodes, run, "b")),
        (path_between, (nodes, run, 0, 3)), (path_between, (nodes, run, 2, 2)), (is_path, (nodes, run, [1, 2, 3])),
        (same_past, (nodes, run, run[:2], "a")), (first_early_open, (nodes, run)), (is_causal, (nodes, run)),
        (known_counts, (nodes, run, "b")), (waitlist_of, (nodes, run, "b")), (label_of_message, (nodes, run, ("b", 1))),
        (is_label, (nodes, label)), (is_label, (nodes, [run])), (start_label, (nodes,)),
        (label_after_send, (nodes, label, "b", ["a"])), (label_after_send, (nodes, label, "b", ["b", "a"])),
        (label_after_open, (nodes, label, "c", ("a", 2), ["b", "c"], carried)),
        (label_after_open, (nodes, label, "b", ("a", 2), ["b"], carried)),
        (needing_run, (nodes, run, "a", pair)), (needing_run, (nodes, run, "b", pair)),
        (is_needing_run, (nodes, run, "a", pair, run[:2] + [("send", "a", ["c"]), ("open", "c", ("a", 3))])),
        (reason_for, (nodes, run, "b", pair)), (reason_for, (nodes, run, "b", (("a", 2), "b"))),
        (is_reason, (nodes, run, "b", pair, ("covered", ("b", 1), [0, 1, 2, 3], [3]))),
        (missing_pairs, (nodes, run, "a", [(("a", 2), "b"), (("b", 1), "c")])), (missing_pairs, (nodes, run, "a", [])),
        (spare_pairs, (nodes, run, "b", [pair, (("b", 1), "c")])), (spare_pairs, (nodes, run, "b", [pair, pair])),
        (harmful_run, (nodes, run, "a", [(("a", 2), "b")])), (harmful_run, (nodes, run, "b", [(("b", 1), "c")])),
        (next_opens, (nodes, run)), (closed_messages, (nodes, run, "c")),
        (is_opening, (nodes, run, "c", [("a", 1), ("b", 1)])), (is_opening, (nodes, run, "c", [[run], {"a": []}])),
        (count_openings, (nodes, run, "c")), (nth_opening, (nodes, run, "c", 0)), (nth_opening, (nodes, run, "c", 1)),
        (longest_size, (nodes,)), (longest_run, (nodes, "b")), (show_run, (nodes, run)),
        (read_run, (nodes, "a>b,c c<a.1 b>a")), (show_pairs, (nodes, [pair, (("a", 2), "b")])),
        (show_pairs, (nodes, [[pair], run])), (read_pairs, (nodes, "a.1>c a.2>b")), (read_run, (nodes, [run])),
    ]


def answered_calls(nodes, run):
    """Return those of the calls that raise no error."""
    calls = []
    for function, arguments in all_calls(nodes, run):
        try:
            function(*arguments)
        except WaitError:
            continue
        calls.append((function, arguments))
    return calls


def lists_and_dicts(value):
    """Return the lists and dicts in a value, itself included, each as often as it appears there."""
    found = [value] if isinstance(value, (list, dict)) else []
    if isinstance(value, dict):
        value = list(value.values())
    if isinstance(value, (list, tuple)):
        for entry in value:
            found += lists_and_dicts(entry)
    return found


def ids(value):
    """Return the identities of the lists and dicts in a value."""
    return [id(each) for each in lists_and_dicts(value)]


def spoil(value):
    """Change each list and dict in a value."""
    for each in lists_and_dicts(value):
        if isinstance(each, dict):
            each["spoilt"] = 99
        else:
            each.insert(0, "spoilt")


class ArgumentsTest(unittest.TestCase):

    def assert_unchanged(self, calls):
        for function, arguments in calls:
            before = copy.deepcopy(arguments)
            try:
                function(*arguments)
            except WaitError:
                pass
            self.assertEqual(arguments, before, function)

    def test_arguments_are_unchanged(self):
        for run in (sample_run(), early_run()):
            self.assert_unchanged(all_calls(list(NODES), run))

    def test_wrong_arguments_are_unchanged(self):
        for wrong in ([("send", "a", ["b", "a"])], [["b"]], ["b", "a"], [{"a": [1]}]):
            self.assert_unchanged(all_calls(NODES, wrong) + all_calls(wrong, sample_run()))

    def test_results_are_new(self):
        run = sample_run()
        calls = answered_calls(NODES, run)
        self.assertEqual(len({function for function, _ in calls}), 37)
        for function, arguments in calls:
            first = function(*arguments)
            expected = copy.deepcopy(first)
            second = function(*arguments)
            own = ids(first) + ids(second)
            self.assertEqual(len(own), len(set(own)), function)
            self.assertFalse(set(own) & set(ids(arguments)), function)
            spoil(first)
            self.assertEqual(second, expected, function)
            self.assertEqual(function(*arguments), expected, function)
        self.assertEqual(run, sample_run())

    def test_no_list_twice_where_the_run_has_one_twice(self):
        receivers = ["b", "c"]
        run = [("send", "a", receivers), ("send", "a", receivers)]
        found = messages_of(NODES, run)
        self.assertEqual(len(set(ids(found))), 3)
        self.assertNotIn(id(receivers), ids(found))

    def test_run_that_is_changed_in_place(self):
        rows = [run for nodes, run in made_runs(True) if nodes == NODES and len(run) > 1]
        kept = []
        for run in [sample_run(), early_run()] + rows:
            kept[:] = copy.deepcopy(run)
            for function, arguments in all_calls(NODES, kept):
                self.assertEqual(told(function, *arguments), told(function, *copy.deepcopy(arguments)))

    def test_receivers_that_are_changed_in_place(self):
        run = sample_run()
        self.assertEqual(waitlist_of(NODES, run, "b"), [(("b", 1), "c")])
        run[3][2][0] = "a"
        self.assertEqual(messages_of(NODES, run)[("b", 1)], ["a"])
        self.assertEqual(waitlist_of(NODES, run, "b"), [(("a", 1), "c"), (("b", 1), "a")])
        run[3][2].append("b")
        self.assertIs(is_run(NODES, run), False)

    def test_numbers_that_are_changed_in_place(self):
        run = sample_run()
        self.assertEqual(path_between(NODES, run, 0, 2), [0, 1, 2])
        run[1][2][0] = "c"
        self.assertIs(is_run(NODES, run), False)
        run[0][2][0] = "b"
        run[2] = ("open", "b", ("a", 1))
        self.assertEqual(path_between(NODES, run, 0, 2), [0, 2])
        run[2] = ("open", "b", ("a", True))
        for function, arguments in answered_calls(NODES, sample_run()):
            if function not in WITHOUT_RUN:
                self.assertIs(told(function, *(arguments[:1] + (run,) + arguments[2:]))[0], InvalidRun)

    def test_nodes_that_are_changed_in_place(self):
        nodes = ["a", "b", "c"]
        self.assertEqual(list(known_counts(nodes, sample_run(), "a")), ["a", "b", "c"])
        nodes.append("d")
        self.assertEqual(list(known_counts(nodes, sample_run(), "a")), ["a", "b", "c", "d"])
        nodes.reverse()
        self.assertIs(is_nodes(nodes), False)


if __name__ == "__main__":
    unittest.main()

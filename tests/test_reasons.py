"""waitlists/reasons.py: point 20."""

import copy
import unittest

from tests import oracle
from tests.samples import NODES, all_pairs, early_run, long_run, made_runs, odd_values, sample_run
from waitlists.errors import InvalidNodes, InvalidPair, InvalidRun, Needed, NotCausal, UnknownNode, WaitError
from waitlists.lists import waitlist_of
from waitlists.order import is_path
from waitlists.reasons import is_reason, reason_for

PAIR = (("a", 1), "c")


def answered_run():
    """Return a run in which a knows that c has opened its first message and sends c another one."""
    return [("send", "a", ["b", "c"]), ("open", "c", ("a", 1)), ("send", "c", ["a"]), ("open", "a", ("c", 1)),
            ("send", "a", ["c"]), ("open", "b", ("a", 1))]


def changed_reasons(run, pair, value):
    """Return tuples like a reason: with another path, another message, another kind."""
    values = [("unknown",), ("opened", [0]), ("opened", list(range(len(run))))]
    for at, part in enumerate(value):
        if isinstance(part, list):
            paths = [part[:-1], part[1:], part + [part[-1]], part[::-1], [part[0], part[-1]]]
            paths += [part[:k] + part[k + 1:] for k in range(len(part))]
            values += [value[:at] + (path,) + value[at + 1:] for path in paths if path]
    if value[0] == "covered":
        values += [("covered", other, value[2], value[3]) for other in oracle.sent_messages(run)]
        values += [("covered", value[1], value[3], value[2]), ("opened", value[2]), ("opened", value[3])]
    if value[0] == "opened":
        values += [("covered", pair[0], value[1], value[1])]
    return values


class ReasonForTest(unittest.TestCase):

    def test_unknown(self):
        self.assertEqual(reason_for(NODES, sample_run(), "c", PAIR), ("unknown",))
        self.assertEqual(reason_for(NODES, sample_run(), "a", (("b", 1), "c")), ("unknown",))

    def test_unknown_to_a_node_with_events(self):
        run = sample_run() + [("send", "c", ["a"])]
        self.assertEqual(reason_for(NODES, run, "c", PAIR), ("unknown",))

    def test_opened(self):
        self.assertEqual(reason_for(NODES, answered_run()[:4], "a", PAIR), ("opened", [1, 2, 3]))

    def test_path_of_a_single_entry(self):
        self.assertEqual(reason_for(NODES, answered_run()[:2], "c", PAIR), ("opened", [1]))
        self.assertEqual(reason_for(NODES, sample_run(), "b", PAIR), ("covered", ("b", 1), [0, 1, 2, 3], [3]))

    def test_covered(self):
        run = sample_run() + [("send", "b", ["a"])]
        self.assertEqual(reason_for(NODES, run, "b", PAIR), ("covered", ("b", 1), [0, 1, 2, 3], [3, 4]))

    def test_covered_by_the_same_sender(self):
        run = [("send", "a", ["b"]), ("send", "a", ["b"])]
        self.assertEqual(reason_for(["a", "b"], run, "a", (("a", 1), "b")), ("covered", ("a", 2), [0, 1], [1]))

    def test_the_first_kind_that_applies(self):
        run = answered_run()
        self.assertEqual(reason_for(NODES, run, "a", PAIR)[0], "opened")
        self.assertEqual(oracle.kinds_of_reasons(run, "a", PAIR), ["opened", "covered"])

    def test_an_open_that_the_node_does_not_know_is_no_reason(self):
        run = [("send", "a", ["c"]), ("open", "c", ("a", 1))]
        self.assertRaises(Needed, reason_for, NODES, run, "a", PAIR)
        run += [("send", "a", ["c"])]
        self.assertEqual(reason_for(NODES, run, "a", PAIR), ("covered", ("a", 2), [0, 2], [2]))

    def test_pair_of_the_node_itself(self):
        self.assertEqual(reason_for(NODES, sample_run(), "b", (("a", 2), "b")), ("opened", [2, 3]))
        run = sample_run()[:2]
        self.assertEqual(reason_for(NODES, run, "b", (("a", 2), "b")), ("unknown",))

    def test_made_runs(self):
        found = {"unknown": 0, "opened": 0, "covered": 0}
        for nodes, run in made_runs(True):
            for node in nodes:
                waitlist = waitlist_of(nodes, run, node)
                for pair in all_pairs(run):
                    kinds = oracle.kinds_of_reasons(run, node, pair)
                    self.assertIs(pair in waitlist, not kinds)
                    if pair in waitlist:
                        self.assertRaises(Needed, reason_for, nodes, run, node, pair)
                        self.assertRaises(Needed, is_reason, nodes, run, node, pair, None)
                        continue
                    reason = reason_for(nodes, run, node, pair)
                    self.assertEqual(reason[0], kinds[0])
                    self.assertIs(is_reason(nodes, run, node, pair, reason), True)
                    self.assertIs(oracle.is_reason(run, node, pair, reason), True)
                    for path in reason[1:] if reason[0] == "opened" else reason[2:]:
                        self.assertIs(is_path(nodes, run, path), True)
                    found[reason[0]] += 1
        self.assertGreater(min(found.values()), 100)


class IsReasonTest(unittest.TestCase):

    def assert_reason(self, expected, run, node, value, pair=PAIR):
        self.assertIs(is_reason(NODES, run, node, pair, value), expected, value)

    def test_unknown(self):
        self.assert_reason(True, sample_run(), "c", ("unknown",))
        self.assert_reason(False, sample_run(), "b", ("unknown",))
        self.assert_reason(False, sample_run(), "c", ("unknown", []))
        self.assert_reason(False, sample_run(), "c", ["unknown"])

    def test_opened(self):
        run = answered_run()
        self.assert_reason(True, run, "a", ("opened", [1, 2, 3, 4]))
        for path in ([1, 2, 3], [1], [4], [2, 3, 4], [1, 3, 4], [0, 3, 4], [0, 1, 2, 3, 4], [5, 4], [], [1, 2, 4], [1, 2, 3, 5]):
            self.assert_reason(False, run, "a", ("opened", path))
        self.assert_reason(False, run, "c", ("unknown",))

    def test_the_word_and_the_length_count(self):
        run = answered_run()
        path = [1, 2, 3, 4]
        for value in (("Opened", path), ("open", path), ("covered", path), ("unknown", path), ("", path), (None, path),
                      ("opened", path, path), ("opened", path, [4]), ("opened", ("a", 2), path, [4]), (path, "opened"),
                      ("opened", [path]), ("covered", path, path, path), ("opened", ("a", 2), [0, 4], [4])):
            self.assert_reason(False, run, "a", value)

    def test_open_of_another_receiver_or_message(self):
        run = answered_run()
        self.assert_reason(True, run, "b", ("opened", [5]), (("a", 1), "b"))
        self.assert_reason(False, run, "b", ("opened", [1]), (("a", 1), "b"))
        self.assert_reason(False, run, "a", ("opened", [5]))
        self.assert_reason(False, run, "c", ("opened", [1, 2]), (("a", 2), "c"))
        self.assert_reason(True, run, "c", ("opened", [1, 2]))

    def test_open_that_does_not_exist(self):
        run = [("send", "a", ["c"]), ("send", "a", ["c"])]
        self.assert_reason(False, run, "a", ("opened", [1]))
        self.assert_reason(False, run, "a", ("opened", [0, 1]))

    def test_steps_may_pass_over_events(self):
        run = [("send", "a", ["c"]), ("send", "a", ["b"]), ("send", "a", ["c"]), ("send", "a", ["b"]), ("send", "a", ["b"])]
        for path in ([0, 1, 2], [0, 2]):
            for rest in ([2, 3, 4], [2, 4]):
                self.assert_reason(True, run, "a", ("covered", ("a", 3), path, rest))

    def test_covered(self):
        run = sample_run() + [("send", "b", ["a"])]
        self.assert_reason(True, run, "b", ("covered", ("b", 1), [0, 1, 2, 3], [3, 4]))
        for value in (("covered", ("b", 1), [0, 1, 2, 3], [3]), ("covered", ("b", 1), [0, 1, 2], [2, 3, 4]),
                      ("covered", ("b", 1), [3], [3, 4]), ("covered", ("b", 1), [1, 2, 3], [3, 4]),
                      ("covered", ("b", 2), [0, 1, 2, 4], [4]), ("covered", ("a", 2), [0, 1], [1, 2, 4]),
                      ("covered", ("a", 1), [0], [0, 1, 2, 4]), ("covered", ("b", 1), [0, 3], [3, 4]),
                      ("covered", ("b", 1), [0, 1, 2, 3], [4]), ("covered", ("b", 1), [0, 1, 2, 3, 4], [4]),
                      ("covered", ("b", 1), [0, 1, 2, 3]), ("covered", ("b", 1), [0, 1, 2, 3], [3, 4], []),
                      ("covered", ("b", 3), [0, 1, 2, 3], [3, 4]), ("covered", ("b", 0), [0, 1, 2, 3], [3, 4])):
            self.assert_reason(False, run, "b", value)

    def test_a_message_does_not_cover_itself(self):
        run = answered_run()
        self.assert_reason(False, run, "a", ("covered", ("a", 1), [0], [0, 4]))
        self.assert_reason(False, run, "a", ("covered", ("a", 1), [0, 4], [4]))
        self.assert_reason(True, run, "a", ("covered", ("a", 2), [0, 4], [4]))

    def test_the_other_message_has_the_same_receiver(self):
        run = [("send", "a", ["c"]), ("send", "a", ["b"]), ("send", "a", ["b", "c"])]
        self.assert_reason(False, run, "a", ("covered", ("a", 2), [0, 1], [1, 2]))
        self.assert_reason(True, run, "a", ("covered", ("a", 3), [0, 2], [2]))

    def test_a_later_kind_is_accepted_where_an_earlier_one_applies(self):
        run = answered_run()
        self.assert_reason(True, run, "a", ("opened", [1, 2, 3, 4]))
        self.assert_reason(True, run, "a", ("covered", ("a", 2), [0, 4], [4]))
        self.assert_reason(True, run, "a", ("covered", ("a", 2), [0, 1, 2, 3, 4], [4]))

    def test_node_without_events(self):
        run = sample_run() + [("send", "b", ["c"])]
        self.assert_reason(True, run, "c", ("unknown",))
        for value in (("opened", [0]), ("opened", [4]), ("opened", []), ("opened", [-1]),
                      ("covered", ("b", 1), [0, 1, 2, 3], [3]), ("covered", ("b", 1), [0, 1, 2, 3], [3, 4]),
                      ("covered", ("b", 1), [0, 1, 2, 3], [])):
            self.assert_reason(False, run, "c", value)

    def test_changed_reasons(self):
        found = {True: 0, False: 0}
        for nodes, run in made_runs(True)[::3]:
            for node in nodes:
                waitlist = waitlist_of(nodes, run, node)
                for pair in [pair for pair in all_pairs(run) if pair not in waitlist][:6]:
                    reason = reason_for(nodes, run, node, pair)
                    for value in changed_reasons(run, pair, reason):
                        expected = oracle.is_reason(run, node, pair, value)
                        self.assertIs(is_reason(nodes, run, node, pair, value), expected, (run, node, pair, value))
                        found[expected] += 1
        self.assertGreater(min(found.values()), 100)

    def test_wrong_kinds(self):
        run = sample_run()
        for value in (["covered", ("b", 1), [0, 1, 2, 3], [3]], ("covered", ["b", 1], [0, 1, 2, 3], [3]),
                      ("covered", ("b", True), [0, 1, 2, 3], [3]), ("covered", ("b", 1), (0, 1, 2, 3), [3]),
                      ("covered", ("b", 1), [0, 1, 2, 3], (3,)), ("covered", ("b", 1), [0, True, 2, 3], [3]),
                      ("covered", ("b", 1), [False, 1, 2, 3], [3]), ("covered", "b.1", [0, 1, 2, 3], [3]),
                      ("covered", ("b", 1), [0, 1, 2, 3], 3), ("covered", ("b", 1), None, [3]), ("Covered", ("b", 1), [0, 3], [3]),
                      (b"covered", ("b", 1), [0, 1, 2, 3], [3]), ("opened",), ("covered",), ("unknown", None), (), ((),),
                      ({}, 1), ([], [], [], []), ("opened", [0], [0]), {"unknown"}, "unknown", ("u",), (("unknown",),)):
            self.assert_reason(False, run, "b", value)

    def test_any_value(self):
        for value in odd_values():
            for node in NODES:
                if node != "a":
                    self.assert_reason(False, sample_run(), node, value)
            self.assert_reason(False, sample_run(), "b", (value,))
            self.assert_reason(False, sample_run(), "b", ("opened", value))
            self.assert_reason(False, sample_run(), "b", (value, ("b", 1), [0, 1, 2, 3], [3]))
            self.assert_reason(False, sample_run(), "b", ("covered", value, [0, 1, 2, 3], [3]))
            self.assert_reason(False, sample_run(), "b", ("covered", ("b", 1), value, [3]))
            self.assert_reason(False, sample_run(), "b", ("covered", ("b", 1), [0, 1, 2, 3], value))
            self.assert_reason(False, answered_run()[:4], "a", ("opened", [1, 2, 3, value]))

    def test_long_paths(self):
        run = long_run(["a", "b"], 149) + [("send", "a", ["b"])]
        self.assertEqual(run[-1], ("send", "a", ["b"]))
        last = oracle.last_event(run, "a")
        opened = run.index(("open", "b", ("a", 1)))
        path = reason_for(["a", "b"], run, "a", (("a", 1), "b"))[1]
        self.assertIs(is_reason(["a", "b"], run, "a", (("a", 1), "b"), ("opened", path)), True)
        self.assertEqual([path[0], path[-1]], [opened, last])
        self.assertGreater(len(path), 70)
        for value in (path + [150], path + path, path[:1] * 155, path[:-1] + list(range(path[-2], 155))):
            self.assertIs(is_reason(["a", "b"], run, "a", (("a", 1), "b"), ("opened", value)), False)


class ReasonsErrorsTest(unittest.TestCase):

    def test_needed(self):
        for node, pair in (("a", PAIR), ("a", (("a", 2), "b")), ("b", (("b", 1), "c"))):
            self.assertRaises(Needed, reason_for, NODES, sample_run(), node, pair)
            self.assertRaises(Needed, is_reason, NODES, sample_run(), node, pair, ("unknown",))

    def test_order_of_errors(self):
        arguments = (NODES, early_run(), "d", (("a", 1), "b"))
        for function, rest in ((reason_for, ()), (is_reason, (None,))):
            for wrong, error in (
                    ((None, None) + arguments[2:], InvalidNodes), ((None,) + arguments[1:], InvalidNodes),
                    ((NODES, None) + arguments[2:], InvalidRun), ((NODES, early_run() + [1]) + arguments[2:], InvalidRun),
                    (arguments, NotCausal), ((NODES, early_run(), "d", None), NotCausal),
                    ((NODES, early_run(), "a", PAIR), NotCausal),
                    ((NODES, sample_run(), "d", (("a", 1), "b")), UnknownNode), ((NODES, sample_run(), None, None), UnknownNode),
                    ((NODES, sample_run(), "a", (("a", 1), "b")), InvalidPair), ((NODES, [], "a", None), InvalidPair),
                    ((NODES, sample_run(), "a", PAIR), Needed)):
                with self.assertRaises(error) as caught:
                    function(*wrong, *rest)
                self.assertIs(caught.exception.__class__, error)
                self.assertEqual(error.__bases__, (WaitError,))

    def test_not_causal_has_the_first_index(self):
        with self.assertRaises(NotCausal) as caught:
            reason_for(NODES, early_run(), "b", PAIR)
        self.assertEqual(caught.exception.index, 4)

    def test_any_value(self):
        for value in odd_values():
            for function, rest in ((reason_for, ()), (is_reason, (("unknown",),))):
                self.assertRaises(InvalidNodes, function, value, sample_run(), "b", PAIR, *rest)
                if value != []:
                    self.assertRaises(InvalidRun, function, NODES, value, "b", PAIR, *rest)
                self.assertRaises(UnknownNode, function, NODES, sample_run(), value, PAIR, *rest)
                for wrong in (value, (value, "c"), (("a", 1), value), (("a", value), "c"), ((value, 1), "c")):
                    self.assertRaises(InvalidPair, function, NODES, sample_run(), "b", wrong, *rest)

    def test_arguments_are_unchanged_and_results_are_new(self):
        run = sample_run()
        value = ("covered", ("b", 1), [0, 1, 2, 3], [3])
        expected = copy.deepcopy(value)
        self.assertIs(is_reason(NODES, run, "b", PAIR, value), True)
        first = reason_for(NODES, run, "b", PAIR)
        self.assertEqual([run, value, first], [sample_run(), expected, expected])
        first[2].append("spoilt")
        first[3].append("spoilt")
        self.assertEqual(reason_for(NODES, run, "b", PAIR), expected)


if __name__ == "__main__":
    unittest.main()

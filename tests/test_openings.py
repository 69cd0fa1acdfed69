"""waitlists/openings.py: point 22, and the size of point 18."""

import copy
import unittest
from math import factorial

from tests import oracle
from tests.samples import NODES, assert_error, early_run, made_runs, odd_values, sample_run
from waitlists.errors import InvalidIndex, InvalidNodes, InvalidRun, NotCausal, TooMany, UnknownNode
from waitlists.lists import waitlist_of
from waitlists.openings import (closed_messages, count_openings, is_opening, longest_run, longest_size, next_opens,
                                nth_opening)
from waitlists.order import is_causal
from waitlists.runs import is_run

LETTERS = list("abcdefghijkl")
CLOSED = [("a", 1), ("b", 1)]


def senders_run(many):
    """Return a run in which so many nodes each send a message to a, and none knows of another one."""
    return [("send", node, ["a"]) for node in LETTERS[1:many + 1]]


def diamond_run():
    """Return a run with four messages to d: one before two others, and these before the last one."""
    return [("send", "a", ["b", "c", "d"]), ("open", "b", ("a", 1)), ("open", "c", ("a", 1)), ("send", "b", ["a", "d"]),
            ("send", "c", ["a", "d"]), ("open", "a", ("b", 1)), ("open", "a", ("c", 1)), ("send", "a", ["d"])]


def few_closed_runs():
    """Return (nodes, run, node) of made runs with at most five closed messages of the node."""
    return [(nodes, run, node) for nodes, run in made_runs(True) for node in nodes if len(oracle.closed(run, node)) <= 5]


class NextOpensTest(unittest.TestCase):

    def test_no_events_and_nothing_closed(self):
        self.assertEqual(next_opens(NODES, []), [])
        self.assertEqual(next_opens(NODES, [("send", "a", ["b"]), ("open", "b", ("a", 1))]), [])

    def test_every_node_in_ascending_order(self):
        run = [("send", "c", ["a", "b"]), ("send", "b", ["a", "c"]), ("send", "a", ["b", "c"])]
        self.assertEqual(next_opens(NODES, run), [("a", ("b", 1)), ("a", ("c", 1)), ("b", ("a", 1)), ("b", ("c", 1)),
                                                  ("c", ("a", 1)), ("c", ("b", 1))])

    def test_a_message_that_must_wait_is_not_possible(self):
        self.assertEqual(next_opens(NODES, sample_run()), [("c", ("a", 1))])
        self.assertEqual(next_opens(NODES, sample_run()[:2]), [("b", ("a", 2)), ("c", ("a", 1))])
        self.assertEqual(next_opens(NODES, sample_run() + [("open", "c", ("a", 1))]), [("c", ("b", 1))])

    def test_only_the_first_closed_one_of_a_sender(self):
        self.assertEqual(next_opens(["a", "b"], [("send", "a", ["b"])] * 11), [("b", ("a", 1))])
        run = [("send", "a", ["b"])] * 11 + [("open", "b", ("a", number)) for number in range(1, 10)]
        self.assertEqual(next_opens(["a", "b"], run), [("b", ("a", 10))])

    def test_made_runs(self):
        possible = 0
        for nodes, run in made_runs(True):
            expected = sorted((node, message) for node in nodes for message in oracle.closed(run, node)
                              if oracle.opens_in_order(run, message, node))
            self.assertEqual(next_opens(nodes, run), expected)
            for node, message in expected:
                self.assertIs(is_causal(nodes, run + [("open", node, message)]), True)
            possible += len(expected)
        self.assertGreater(possible, 100)


class ClosedMessagesTest(unittest.TestCase):

    def test_sent_and_not_opened(self):
        self.assertEqual(closed_messages(NODES, sample_run(), "c"), CLOSED)
        self.assertEqual([closed_messages(NODES, sample_run(), node) for node in ("a", "b")], [[], []])
        self.assertEqual(closed_messages(NODES, sample_run()[:2], "b"), [("a", 2)])
        self.assertEqual(closed_messages(NODES, sample_run() + [("open", "c", ("a", 1))], "c"), [("b", 1)])
        self.assertEqual(closed_messages(NODES, [], "a"), [])

    def test_numbers_ascend_as_numbers(self):
        run = [("send", "b", ["c"])] + [("send", "a", ["c"])] * 11
        self.assertEqual(closed_messages(NODES, run, "c"), [("a", number) for number in range(1, 12)] + [("b", 1)])

    def test_the_open_of_another_receiver_is_no_matter(self):
        run = [("send", "a", ["b", "c"]), ("open", "b", ("a", 1))]
        self.assertEqual([closed_messages(NODES, run, node) for node in NODES], [[], [], [("a", 1)]])

    def test_made_runs(self):
        for nodes, run in made_runs(True):
            for node in nodes:
                self.assertEqual(closed_messages(nodes, run, node), oracle.closed(run, node))


class IsOpeningTest(unittest.TestCase):

    def assert_opening(self, expected, value, run=None, node="c"):
        self.assertIs(is_opening(NODES, sample_run() if run is None else run, node, value), expected, value)

    def test_order_counts(self):
        self.assert_opening(True, [("a", 1), ("b", 1)])
        self.assert_opening(False, [("b", 1), ("a", 1)])
        for value in ([("a", 1), ("b", 1)], [("b", 1), ("a", 1)]):
            self.assert_opening(True, value, [("send", "a", ["c"]), ("send", "b", ["c"])])

    def test_all_and_each_once(self):
        for value in ([], [("a", 1)], [("b", 1)], [("a", 1), ("a", 1)], [("a", 1), ("b", 1), ("b", 1)],
                      [("a", 1), ("b", 1), ("a", 1)], [("a", 1), ("a", 1), ("b", 1)]):
            self.assert_opening(False, value)

    def test_other_messages(self):
        for value in ([("a", 1), ("a", 2), ("b", 1)], [("a", 2), ("a", 1), ("b", 1)], [("a", 1), ("b", 1), ("a", 2)],
                      [("a", 1), ("b", 2)], [("a", 1), ("c", 1)], [("a", 1), ("a", 2)], [("a", 1), ("b", 1), ("d", 1)]):
            self.assert_opening(False, value)
        run = sample_run() + [("open", "c", ("a", 1))]
        self.assert_opening(True, [("b", 1)], run)
        self.assert_opening(False, [("a", 1), ("b", 1)], run)
        self.assert_opening(False, [("b", 1), ("a", 1)], run)
        self.assert_opening(False, [("a", 1)], run)

    def test_nothing_closed(self):
        for node in ("a", "b"):
            self.assert_opening(True, [], None, node)
            self.assert_opening(False, [("a", 1)], None, node)
            self.assert_opening(False, [("a", 2)], None, node)
            self.assert_opening(False, (), None, node)
        self.assert_opening(True, [], [], "c")

    def test_wrong_kinds(self):
        for value in ((("a", 1), ("b", 1)), [["a", 1], ["b", 1]], [("a", True), ("b", 1)], [("a", 1), ("b", True)],
                      {("a", 1): 1, ("b", 1): 2}, [("a", 1), ("b", 1), None], [None, ("a", 1), ("b", 1)], "a.1 b.1",
                      [("a", 1, 1), ("b", 1)], [(("a", 1), "c"), (("b", 1), "c")], ["a.1", "b.1"], [[("a", 1), ("b", 1)]],
                      [("a", 0), ("b", 1)], [("a", -2), ("b", 1)], [("a", 1), ("b", 0)], [("a", 1), ("b", False)]):
            self.assert_opening(False, value)

    def test_any_value(self):
        for value in odd_values():
            self.assert_opening(False, value)
            self.assert_opening(False, [value])
            self.assert_opening(False, [("a", 1), value])
            self.assert_opening(False, [("a", 1), ("b", 1), value])
            self.assert_opening(False, [("a", 1), ("b", value)])
            self.assert_opening(False, [(value, 1), ("b", 1)])
            self.assert_opening(value == [], value, [], "a")

    def test_more_than_12_closed(self):
        order = [("a", number) for number in range(1, 14)]
        self.assertIs(is_opening(["a", "b"], [("send", "a", ["b"])] * 13, "b", order), True)
        self.assertIs(is_opening(["a", "b"], [("send", "a", ["b"])] * 13, "b", order[1:] + order[:1]), False)


class CountTest(unittest.TestCase):

    def test_nothing_closed(self):
        self.assertEqual([count_openings(NODES, [], "a"), count_openings(NODES, sample_run(), "b")], [1, 1])
        self.assertEqual([nth_opening(NODES, [], "a", 0), nth_opening(NODES, sample_run(), "b", 0)], [[], []])

    def test_one_order_alone(self):
        self.assertEqual(count_openings(NODES, sample_run(), "c"), 1)
        for many in range(1, 13):
            self.assertEqual(count_openings(["a", "b"], [("send", "a", ["b"])] * many, "b"), 1)

    def test_any_order(self):
        for many in range(1, 12):
            self.assertEqual(count_openings(LETTERS, senders_run(many), "a"), factorial(many))

    def test_some_orders(self):
        self.assertEqual(count_openings(["a", "b", "c", "d"], diamond_run(), "d"), 2)
        run = [("send", "a", ["c"])] * 3 + [("send", "b", ["c"])] * 2
        self.assertEqual(count_openings(NODES, run, "c"), 10)
        self.assertEqual(count_openings(NODES, run + [("open", "c", ("a", 1))], "c"), 6)

    def test_sum_over_the_next_opens(self):
        tried = 0
        for nodes, run in made_runs(True):
            for node in nodes:
                if not 0 < len(closed_messages(nodes, run, node)) <= 12:
                    continue
                behind = [count_openings(nodes, run + [("open", other, message)], node)
                          for other, message in next_opens(nodes, run) if other == node]
                self.assertEqual(count_openings(nodes, run, node), sum(behind))
                tried += len(behind)
        self.assertGreater(tried, 100)


class NthTest(unittest.TestCase):

    def test_the_least_one_is_first(self):
        run = [("send", "a", ["c"]), ("send", "b", ["c"])]
        self.assertEqual([nth_opening(NODES, run, "c", number) for number in (0, 1)],
                         [[("a", 1), ("b", 1)], [("b", 1), ("a", 1)]])
        nodes = ["a", "b", "c", "d"]
        self.assertEqual([nth_opening(nodes, diamond_run(), "d", number) for number in (0, 1)],
                         [[("a", 1), ("b", 1), ("c", 1), ("a", 2)], [("a", 1), ("c", 1), ("b", 1), ("a", 2)]])

    def test_numbers_of_messages_ascend_as_numbers(self):
        run = [("send", "a", ["c"])] * 11 + [("send", "b", ["c"])] + [("open", "c", ("a", k)) for k in range(1, 9)]
        orders = [nth_opening(NODES, run, "c", number) for number in range(4)]
        rest = [("a", 9), ("a", 10), ("a", 11)]
        self.assertEqual(orders, [rest[:at] + [("b", 1)] + rest[at:] for at in (3, 2, 1, 0)])

    def test_all_orders_are_those_that_is_opening_accepts(self):
        many = 0
        for nodes, run, node in few_closed_runs():
            expected = oracle.openings(run, node)
            self.assertEqual(count_openings(nodes, run, node), len(expected))
            found = [nth_opening(nodes, run, node, number) for number in range(len(expected))]
            self.assertEqual(found, expected)
            self.assertEqual([is_opening(nodes, run, node, order) for order in found], [True] * len(found))
            many = max(many, len(found))
        self.assertGreater(many, 20)

    def test_permutations_that_is_opening_judges(self):
        found = {True: 0, False: 0}
        for nodes, run, node in few_closed_runs()[::3]:
            for order in oracle.permutations(oracle.closed(run, node)):
                expected = oracle.is_opening(run, node, list(order))
                self.assertIs(is_opening(nodes, run, node, list(order)), expected)
                found[expected] += 1
        self.assertGreater(min(found.values()), 50)

    def test_wrong_numbers(self):
        run = [("send", "a", ["c"]), ("send", "b", ["c"])]
        for number in (-1, 2, 3, 10 ** 17, -10 ** 17, True, False, None, "0", "", [0], (0,), {}, [], b"0", ("a", 1)):
            self.assertRaises(InvalidIndex, nth_opening, NODES, run, "c", number)
        for number in (1, -1, True, False):
            self.assertRaises(InvalidIndex, nth_opening, NODES, run, "a", number)
            self.assertRaises(InvalidIndex, nth_opening, NODES, sample_run(), "c", number)

    def test_any_value_as_number(self):
        for value in odd_values():
            self.assertRaises(InvalidIndex, nth_opening, NODES, sample_run(), "c", value)


class TooManyTest(unittest.TestCase):

    def assert_too_many(self, many, nodes, run, node):
        for function, rest in ((count_openings, ()), (nth_opening, (0,)), (nth_opening, (-1,)), (nth_opening, (None,))):
            with self.assertRaises(TooMany) as caught:
                function(nodes, run, node, *rest)
            self.assertEqual(vars(caught.exception), {"many": many})

    def test_more_than_12(self):
        self.assert_too_many(13, ["a", "b"], [("send", "a", ["b"])] * 13, "b")
        self.assert_too_many(150, ["a", "b"], [("send", "a", ["b"])] * 150, "b")
        self.assert_too_many(22, LETTERS, senders_run(11) * 2, "a")

    def test_only_closed_messages_count(self):
        run = [("send", "a", ["b"])] * 20
        opens = [("open", "b", ("a", number)) for number in range(1, 9)]
        self.assert_too_many(13, ["a", "b"], run + opens[:7], "b")
        self.assertEqual(count_openings(["a", "b"], run + opens, "b"), 1)
        self.assertEqual(nth_opening(["a", "b"], run + opens, "b", 0), [("a", number) for number in range(9, 21)])
        self.assertEqual(count_openings(["a", "b"], run, "a"), 1)


class LongestTest(unittest.TestCase):

    def test_size(self):
        for many in range(2, 13):
            self.assertEqual(longest_size(LETTERS[:many]), (many - 1) * (many - 1))
        self.assertEqual(longest_size(["x", "y", "zzzzzzzz"]), 4)

    def test_run(self):
        for many in range(2, 13):
            nodes = LETTERS[:many]
            for node in nodes:
                run = longest_run(nodes, node)
                self.assertIs(is_run(nodes, run), True)
                self.assertIs(is_causal(nodes, run), True)
                waitlist = waitlist_of(nodes, run, node)
                self.assertEqual(len(waitlist), longest_size(nodes))
                if many < 6:
                    self.assertIsNone(oracle.first_early(run))
                    self.assertEqual(waitlist, oracle.waitlist(run, node))

    def test_each_list_is_new(self):
        nodes = ["a", "b", "c"]
        first = longest_run(nodes, "b")
        expected = copy.deepcopy(first)
        lists = [event[2] for event in first if event[0] == "send"]
        self.assertEqual(len({id(each) for each in lists + [nodes, first]}), len(lists) + 2)
        for each in lists:
            each.append("spoilt")
        first.clear()
        self.assertEqual([nodes, longest_run(nodes, "b")], [["a", "b", "c"], expected])


class OpeningsErrorsTest(unittest.TestCase):

    def test_order_of_errors(self):
        many = [("send", "a", ["b"])] * 13
        for function, rest in ((next_opens, ()), (closed_messages, ("d",)), (is_opening, ("d", None)),
                               (count_openings, ("d",)), (nth_opening, ("d", None))):
            assert_error(self, InvalidNodes, function, None, None, *rest)
            assert_error(self, InvalidNodes, function, ["b", "a"], early_run(), *rest)
            assert_error(self, InvalidRun, function, NODES, None, *rest)
            assert_error(self, InvalidRun, function, NODES, early_run() + [None], *rest)
            assert_error(self, NotCausal, function, NODES, early_run(), *rest)
            assert_error(self, NotCausal, function, NODES, early_run()[:5] + many, *rest)
            if rest:
                assert_error(self, UnknownNode, function, NODES, sample_run(), *rest)
                assert_error(self, UnknownNode, function, NODES, many, *rest)
        assert_error(self, TooMany, nth_opening, NODES, many, "b", None)
        assert_error(self, InvalidIndex, nth_opening, NODES, many, "a", None)
        assert_error(self, InvalidNodes, longest_run, ["a"], "b")
        assert_error(self, InvalidNodes, longest_run, None, None)
        assert_error(self, UnknownNode, longest_run, ["a", "b"], "c")

    def test_not_causal_has_the_first_index(self):
        run = early_run() + [("send", "a", ["b"]), ("send", "a", ["b"]), ("open", "b", ("a", 4))]
        for function, rest in ((next_opens, ()), (closed_messages, ("c",)), (is_opening, ("c", [])),
                               (count_openings, ("c",)), (nth_opening, ("c", 0))):
            with self.assertRaises(NotCausal) as caught:
                function(NODES, run, *rest)
            self.assertEqual(vars(caught.exception), {"index": 4})

    def test_any_value(self):
        for value in odd_values():
            for function, rest in ((next_opens, ()), (closed_messages, ("a",)), (is_opening, ("a", [])),
                                   (count_openings, ("a",)), (nth_opening, ("a", 0))):
                self.assertRaises(InvalidNodes, function, value, sample_run(), *rest)
                if value != []:
                    self.assertRaises(InvalidRun, function, NODES, value, *rest)
                if rest:
                    self.assertRaises(UnknownNode, function, NODES, sample_run(), value, *rest[1:])
            self.assertRaises(InvalidNodes, longest_size, value)
            self.assertRaises(InvalidNodes, longest_run, value, "a")
            self.assertRaises(UnknownNode, longest_run, NODES, value)


if __name__ == "__main__":
    unittest.main()

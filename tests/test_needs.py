"""waitlists/needs.py: points 16 and 19."""

import copy
import unittest

from tests import oracle
from tests.samples import NODES, all_pairs, early_run, long_run, made_runs, odd_values, sample_run
from waitlists.errors import InvalidNodes, InvalidPair, InvalidRun, NotCausal, NotNeeded, UnknownNode, WaitError
from waitlists.lists import waitlist_of
from waitlists.needs import is_needing_run, needing_run
from waitlists.order import first_early_open, same_past
from waitlists.runs import is_run

FOUR = ["a", "b", "c", "d"]
PAIR = (("a", 1), "d")


def two_waits():
    """Return a run in which b knows two messages to d that wait: of a and of c."""
    return [("send", "a", ["d"]), ("send", "a", ["b"]), ("send", "c", ["d"]), ("send", "c", ["b"]),
            ("open", "b", ("a", 2)), ("open", "b", ("c", 2))]


def needing():
    """Return a needing run for b and PAIR in the run with two waits."""
    return two_waits() + [("open", "d", ("c", 1)), ("send", "b", ["d"]), ("open", "d", ("b", 1))]


def changed_runs(run):
    """Return runs like the run: without an event, with two neighbours exchanged, with an event twice, a beginning."""
    runs = [run[:at] + run[at + 1:] for at in range(len(run))]
    runs += [run[:at] + [run[at + 1], run[at]] + run[at + 2:] for at in range(len(run) - 1)]
    runs += [run[:at] + [run[at]] + run[at:] for at in range(len(run))]
    return runs + [run[:at] for at in range(len(run))]


class NeedingRunTest(unittest.TestCase):

    def test_only_what_is_needed(self):
        self.assertEqual(needing_run(FOUR, two_waits(), "b", PAIR), needing())

    def test_events_outside_the_past_are_left_out(self):
        run = two_waits() + [("open", "d", ("a", 1)), ("send", "d", ["a"])]
        self.assertEqual(needing_run(FOUR, run, "b", PAIR), needing())

    def test_opens_in_the_past_are_not_repeated(self):
        run = [("send", "c", ["b", "d"]), ("open", "d", ("c", 1)), ("send", "a", ["d"]), ("send", "d", ["b"]),
               ("open", "b", ("c", 1)), ("open", "b", ("d", 1)), ("send", "c", ["d"]), ("send", "c", ["b"]),
               ("open", "b", ("c", 3)), ("send", "a", ["b"]), ("open", "b", ("a", 2))]
        self.assertEqual(waitlist_of(FOUR, run, "b"), [(("a", 1), "d"), (("c", 2), "d")])
        found = needing_run(FOUR, run, "b", PAIR)
        self.assertEqual(found, run + [("open", "d", ("c", 2)), ("send", "b", ["d"]), ("open", "d", ("b", 1))])
        self.assertIs(is_needing_run(FOUR, run, "b", PAIR, found), True)

    def test_messages_before_another_one_of_the_waitlist_are_opened_in_order(self):
        run = [("send", "a", ["d"]), ("send", "c", ["d"]), ("send", "c", ["d"]), ("send", "a", ["b"]),
               ("send", "c", ["b"]), ("open", "b", ("a", 2)), ("open", "b", ("c", 3))]
        found = needing_run(FOUR, run, "b", PAIR)
        self.assertEqual(found[len(run):], [("open", "d", ("c", 1)), ("open", "d", ("c", 2)), ("send", "b", ["d"]),
                                            ("open", "d", ("b", 1))])
        self.assertIs(is_needing_run(FOUR, run, "b", PAIR, found), True)

    def test_number_of_the_last_message(self):
        run = [("send", "a", ["b"])] * 11
        found = needing_run(["a", "b"], run, "a", (("a", 11), "b"))
        self.assertEqual(found[-2:], [("send", "a", ["b"]), ("open", "b", ("a", 12))])
        self.assertEqual(found[:-2], run)

    def test_made_runs(self):
        needed = 0
        for nodes, run in made_runs(True):
            for node in nodes:
                waitlist = waitlist_of(nodes, run, node)
                for pair in waitlist:
                    found = needing_run(nodes, run, node, pair)
                    self.assertIs(is_needing_run(nodes, run, node, pair, found), True)
                    self.assertIs(is_run(nodes, found), True)
                    self.assertEqual(first_early_open(nodes, found), len(found) - 1)
                    self.assertIs(same_past(nodes, run, found[:-2], node), True)
                    self.assertIs(oracle.is_needing(nodes, run, node, pair, found), True)
                    needed += 1
                for pair in all_pairs(run):
                    if pair not in waitlist:
                        self.assertRaises(NotNeeded, needing_run, nodes, run, node, pair)
                        self.assertRaises(NotNeeded, is_needing_run, nodes, run, node, pair, None)
        self.assertGreater(needed, 200)


class IsNeedingRunTest(unittest.TestCase):

    def assert_needing(self, expected, value, pair=PAIR):
        self.assertIs(is_needing_run(FOUR, two_waits(), "b", pair, value), expected, value)
        if isinstance(value, list):
            self.assertIs(oracle.is_needing(FOUR, two_waits(), "b", pair, value), expected)

    def test_needing_run(self):
        self.assert_needing(True, needing())

    def test_another_pair_asks_for_another_run(self):
        self.assert_needing(False, needing(), (("c", 1), "d"))
        value = two_waits() + [("open", "d", ("a", 1)), ("send", "b", ["d"]), ("open", "d", ("b", 1))]
        self.assert_needing(True, value, (("c", 1), "d"))
        self.assert_needing(False, value)

    def test_events_of_different_nodes_in_any_order(self):
        run = needing()
        self.assert_needing(True, [run[2], run[0], run[6], run[1], run[4], run[3], run[5], run[7], run[8]])
        self.assert_needing(False, [run[0], run[1], run[2], run[3], run[5], run[4], run[6], run[7], run[8]])

    def test_more_events_of_others(self):
        more = [("send", "a", ["c", "d"]), ("send", "d", ["b", "c"]), ("open", "c", ("a", 3))]
        self.assert_needing(True, needing()[:-2] + more + needing()[-2:])
        self.assert_needing(True, needing()[:6] + more + needing()[6:])

    def test_the_last_two_events(self):
        run = needing()
        self.assert_needing(False, run[:-1])
        self.assert_needing(False, run[:-2])
        self.assert_needing(False, run + [("send", "a", ["b"])])
        self.assert_needing(False, run[:-2] + [run[-2], ("send", "a", ["b"]), run[-1]])
        self.assert_needing(False, run[:-2] + [("send", "b", ["c", "d"]), run[-1]])
        self.assert_needing(False, run[:-2] + [("send", "b", ["c"]), ("open", "c", ("b", 1))])
        self.assert_needing(False, run[:-2] + [("send", "a", ["d"]), ("open", "d", ("a", 3))])
        self.assert_needing(False, run[:-2] + [("send", "b", ["d"]), ("send", "b", ["d"]), ("open", "d", ("b", 1))])
        self.assert_needing(False, run[:-2] + [("send", "b", ["d"]), ("send", "b", ["d"]), ("open", "d", ("b", 2))])
        self.assert_needing(False, run[:6] + run[7:8] + [run[6]])

    def test_the_rest_is_causal(self):
        early = [("send", "a", ["c"]), ("send", "a", ["c"]), ("open", "c", ("a", 4))]
        self.assert_needing(False, needing()[:-2] + early + needing()[-2:])
        late = [("send", "a", ["c"]), ("send", "a", ["c"]), ("open", "c", ("a", 3)), ("open", "c", ("a", 4))]
        self.assert_needing(True, needing()[:-2] + late + needing()[-2:])

    def test_the_past_of_the_node_is_the_same(self):
        self.assert_needing(False, needing()[:4] + needing()[4:5] + needing()[6:])
        self.assert_needing(False, [("send", "a", ["b"])] + two_waits()[2:4] + [("open", "b", ("a", 1))] + needing()[5:])
        self.assert_needing(False, needing()[:6] + [("send", "b", ["a"]), ("open", "d", ("c", 1)), ("send", "b", ["d"]),
                                                    ("open", "d", ("b", 2))])
        self.assert_needing(False, [("send", "d", ["a"]), ("open", "a", ("d", 1))] + needing())

    def test_the_receiver_has_not_opened_the_message(self):
        self.assert_needing(False, needing()[:-2] + [("open", "d", ("a", 1))] + needing()[-2:])

    def test_the_receiver_has_opened_the_others(self):
        self.assert_needing(False, needing()[:6] + needing()[7:])

    def test_changed_runs(self):
        found = {True: 0, False: 0}
        for nodes, run in made_runs(True)[::4]:
            for node in nodes:
                for pair in waitlist_of(nodes, run, node)[:2]:
                    for value in changed_runs(needing_run(nodes, run, node, pair)):
                        expected = oracle.is_needing(nodes, run, node, pair, value)
                        self.assertIs(is_needing_run(nodes, run, node, pair, value), expected, (run, node, pair, value))
                        found[expected] += 1
        self.assertGreater(found[True], 50)
        self.assertGreater(found[False], 500)

    def test_runs_beside_each_other(self):
        """A needing run for one node, run or pair is judged for others."""
        rows = [(nodes, run) for nodes, run in made_runs(True) if nodes == FOUR[:3]][4:]
        for nodes, run in rows:
            cases = [(node, pair) for node in nodes for pair in waitlist_of(nodes, run, node)]
            for node, pair in cases:
                value = needing_run(nodes, run, node, pair)
                for other_node, other in cases:
                    self.assertIs(is_needing_run(nodes, run, other_node, other, value),
                                  oracle.is_needing(nodes, run, other_node, other, value))

    def test_wrong_kinds(self):
        run = needing()
        for value in (tuple(run), [list(event) for event in run], {at: event for at, event in enumerate(run)},
                      run[:-1] + [("open", "d", ("b", True))], run[:-1] + [("open", "d", ["b", 1])],
                      run[:-2] + [("send", "b", ("d",)), run[-1]], run[:-2] + [("send", "b", "d"), run[-1]],
                      run + [None], [run], [None] * 9, run[:6] + [("open", "d", ("c", True))] + run[7:]):
            self.assertIs(is_needing_run(FOUR, two_waits(), "b", PAIR, value), False, value)

    def test_any_value(self):
        for value in odd_values():
            self.assertIs(is_needing_run(FOUR, two_waits(), "b", PAIR, value), False, value)
            self.assertIs(is_needing_run(FOUR, two_waits(), "b", PAIR, needing()[:-1] + [value]), False, value)
            self.assertIs(is_needing_run(FOUR, two_waits(), "b", PAIR, [value] + needing()[1:]), False, value)

    def test_up_to_155_events(self):
        for length in (154, 155):
            more = long_run(["a", "c"], length)
            value = needing()[:-2]
            base = {"a": 2, "c": 2}
            for kind, node, detail in more[:length - len(needing())]:
                detail = detail if kind == "send" else (detail[0], detail[1] + base[detail[0]])
                value.append((kind, node, detail))
            value += needing()[-2:]
            self.assertEqual(len(value), length)
            self.assert_needing(True, value)
            self.assert_needing(False, value[:-3] + [("send", "b", ["a"])] + value[-2:])


class NeedsErrorsTest(unittest.TestCase):

    def test_not_needed(self):
        for node, pair in (("b", (("a", 1), "c")), ("b", (("a", 2), "b")), ("c", (("a", 1), "c")), ("c", (("b", 1), "c"))):
            self.assertRaises(NotNeeded, needing_run, NODES, sample_run(), node, pair)
            self.assertRaises(NotNeeded, is_needing_run, NODES, sample_run(), node, pair, needing())

    def test_order_of_errors(self):
        arguments = (NODES, early_run(), "d", (("a", 1), "b"))
        for function, rest in ((needing_run, ()), (is_needing_run, (None,))):
            for wrong, error in (
                    ((None, None) + arguments[2:], InvalidNodes), ((None,) + arguments[1:], InvalidNodes),
                    ((NODES, None) + arguments[2:], InvalidRun), ((NODES, early_run() + [1]) + arguments[2:], InvalidRun),
                    (arguments, NotCausal), ((NODES, early_run(), "d", None), NotCausal),
                    ((NODES, early_run(), "a", (("a", 1), "c")), NotCausal),
                    ((NODES, sample_run(), "d", (("a", 1), "b")), UnknownNode), ((NODES, sample_run(), None, None), UnknownNode),
                    ((NODES, sample_run(), "c", (("a", 1), "b")), InvalidPair), ((NODES, [], "c", None), InvalidPair),
                    ((NODES, sample_run(), "c", (("a", 1), "c")), NotNeeded)):
                with self.assertRaises(error) as caught:
                    function(*wrong, *rest)
                self.assertIs(caught.exception.__class__, error)
                self.assertEqual(error.__bases__, (WaitError,))

    def test_not_causal_has_the_first_index(self):
        with self.assertRaises(NotCausal) as caught:
            needing_run(NODES, early_run(), "a", (("a", 1), "c"))
        self.assertEqual(caught.exception.index, 4)

    def test_any_value(self):
        pair = (("a", 1), "c")
        for value in odd_values():
            for function, rest in ((needing_run, ()), (is_needing_run, (None,))):
                self.assertRaises(InvalidNodes, function, value, sample_run(), "a", pair, *rest)
                if value != []:
                    self.assertRaises(InvalidRun, function, NODES, value, "a", pair, *rest)
                self.assertRaises(UnknownNode, function, NODES, sample_run(), value, pair, *rest)
                for wrong in (value, (value, "c"), (("a", 1), value), (("a", value), "c"), ((value, 1), "c")):
                    self.assertRaises(InvalidPair, function, NODES, sample_run(), "a", wrong, *rest)

    def test_values_like_pairs(self):
        for wrong in ([("a", 1), "c"], (["a", 1], "c"), (("a", True), "c"), (("a", 1), ["c"]), (("a", 1), "c", 1),
                      (("a", 1), "b"), (("a", 1), "a"), (("a", 3), "c"), (("c", 1), "a"), ("a", 1, "c"), (("a", 1),)):
            self.assertRaises(InvalidPair, needing_run, NODES, sample_run(), "a", wrong)
            self.assertRaises(InvalidPair, is_needing_run, NODES, sample_run(), "a", wrong, None)

    def test_arguments_are_unchanged_and_results_are_new(self):
        run = two_waits()
        first = needing_run(FOUR, run, "b", PAIR)
        value = copy.deepcopy(first)
        self.assertIs(is_needing_run(FOUR, run, "b", PAIR, value), True)
        self.assertEqual([run, value], [two_waits(), needing()])
        for event in first:
            if event[0] == "send":
                event[2].append("spoilt")
        first.clear()
        self.assertEqual([run, needing_run(FOUR, run, "b", PAIR)], [two_waits(), needing()])


if __name__ == "__main__":
    unittest.main()

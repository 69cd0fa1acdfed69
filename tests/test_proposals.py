"""waitlists/proposals.py: point 21."""

import copy
import unittest

from tests import oracle
from tests.samples import NODES, Choices, all_pairs, assert_error, early_run, made_runs, odd_values, sample_run
from waitlists.errors import InvalidNodes, InvalidProposal, InvalidRun, NotCausal, UnknownNode
from waitlists.lists import waitlist_of
from waitlists.needs import is_needing_run
from waitlists.order import is_causal, same_past
from waitlists.proposals import harmful_run, missing_pairs, spare_pairs

FUNCTIONS = (missing_pairs, spare_pairs, harmful_run)
FIRST, SECOND, THIRD = (("a", 1), "c"), (("a", 2), "b"), (("b", 1), "c")


def all_parts(pairs):
    """Return all lists of some of the pairs, in their order."""
    parts = [[]]
    for pair in pairs:
        parts += [part + [pair] for part in parts]
    return parts


def made_proposals(nodes, run, node):
    """Return some proposals: none, all, the waitlist, it without one pair or with one more, and counted ones."""
    pairs = all_pairs(run)
    waitlist = waitlist_of(nodes, run, node)
    choices = Choices(len(run) * 13 + len(waitlist))
    proposals = [[], pairs, list(waitlist)]
    proposals += [[pair for pair in waitlist if pair != other] for other in waitlist]
    proposals += [sorted(waitlist + [pair]) for pair in pairs if pair not in waitlist][:4]
    return proposals + [choices.some_of(pairs, choices.below(len(pairs) + 1)) for _ in range(4)]


class MissingAndSpareTest(unittest.TestCase):

    def test_the_waitlist_misses_nothing(self):
        for node, waitlist in (("a", [FIRST, SECOND]), ("b", [THIRD]), ("c", [])):
            self.assertEqual(missing_pairs(NODES, sample_run(), node, waitlist), [])
            self.assertEqual(spare_pairs(NODES, sample_run(), node, waitlist), [])

    def test_nothing_proposed(self):
        self.assertEqual(missing_pairs(NODES, sample_run(), "a", []), [FIRST, SECOND])
        self.assertEqual(spare_pairs(NODES, sample_run(), "a", []), [])

    def test_everything_proposed(self):
        for node, spare in (("a", [THIRD]), ("b", [FIRST, SECOND]), ("c", [FIRST, SECOND, THIRD])):
            self.assertEqual(missing_pairs(NODES, sample_run(), node, [FIRST, SECOND, THIRD]), [])
            self.assertEqual(spare_pairs(NODES, sample_run(), node, [FIRST, SECOND, THIRD]), spare)

    def test_missing_and_spare_at_once(self):
        self.assertEqual(missing_pairs(NODES, sample_run(), "a", [SECOND, THIRD]), [FIRST])
        self.assertEqual(spare_pairs(NODES, sample_run(), "a", [SECOND, THIRD]), [THIRD])

    def test_another_receiver_of_the_same_message_is_another_pair(self):
        run = [("send", "a", ["b", "c"])]
        self.assertEqual(missing_pairs(NODES, run, "a", [(("a", 1), "b")]), [(("a", 1), "c")])
        self.assertEqual(spare_pairs(NODES, run, "b", [(("a", 1), "b")]), [(("a", 1), "b")])

    def test_numbers_ascend_as_numbers(self):
        run = [("send", "a", ["b"])] * 2 + [("send", "a", ["b", "c"])] + [("send", "a", ["b"])] * 8
        self.assertEqual(missing_pairs(NODES, run, "a", [(("a", 2), "b"), (("a", 10), "b")]),
                         [(("a", 3), "c"), (("a", 11), "b")])
        self.assertEqual(spare_pairs(NODES, run, "a", [(("a", 2), "b"), (("a", 3), "c"), (("a", 10), "b")]),
                         [(("a", 2), "b"), (("a", 10), "b")])
        self.assertRaises(InvalidProposal, missing_pairs, NODES, run, "a", [(("a", 10), "b"), (("a", 2), "b")])

    def test_empty_run(self):
        self.assertEqual([missing_pairs(NODES, [], "a", []), spare_pairs(NODES, [], "a", [])], [[], []])
        self.assertRaises(InvalidProposal, spare_pairs, NODES, [], "a", [FIRST])

    def test_made_runs(self):
        missed = 0
        for nodes, run in made_runs(True):
            for node in nodes:
                waitlist = oracle.waitlist(run, node)
                for proposal in made_proposals(nodes, run, node):
                    missing = missing_pairs(nodes, run, node, proposal)
                    spare = spare_pairs(nodes, run, node, proposal)
                    self.assertEqual(missing, [pair for pair in waitlist if pair not in proposal])
                    self.assertEqual(spare, [pair for pair in proposal if pair not in waitlist])
                    self.assertEqual(sorted([pair for pair in proposal if pair not in spare] + missing), waitlist)
                    missed += len(missing)
        self.assertGreater(missed, 1000)

    def test_the_waitlist_is_the_only_exact_proposal(self):
        tried = 0
        for nodes, run in made_runs(True):
            parts = all_parts(all_pairs(run)) if len(all_pairs(run)) <= 7 else []
            for node in nodes:
                exact = [part for part in parts
                         if not missing_pairs(nodes, run, node, part) and not spare_pairs(nodes, run, node, part)]
                self.assertEqual(exact, [waitlist_of(nodes, run, node)] if parts else [])
                tried += len(parts)
        self.assertGreater(tried, 1000)


class HarmfulRunTest(unittest.TestCase):

    def test_run_for_the_least_missing_pair(self):
        found = harmful_run(NODES, sample_run(), "a", [])
        self.assertEqual(found, sample_run()[:2] + [("send", "a", ["c"]), ("open", "c", ("a", 3))])
        self.assertIs(is_needing_run(NODES, sample_run(), "a", FIRST, found), True)
        self.assertIs(is_needing_run(NODES, sample_run(), "a", SECOND, found), False)
        found = harmful_run(NODES, sample_run(), "a", [FIRST, THIRD])
        self.assertIs(is_needing_run(NODES, sample_run(), "a", SECOND, found), True)
        found = harmful_run(NODES, sample_run(), "b", [FIRST, SECOND])
        self.assertIs(is_needing_run(NODES, sample_run(), "b", THIRD, found), True)

    def test_nothing_is_missing(self):
        for node, proposal in (("a", [FIRST, SECOND]), ("a", [FIRST, SECOND, THIRD]), ("b", [THIRD]), ("c", []),
                               ("c", [FIRST, SECOND, THIRD])):
            self.assertIsNone(harmful_run(NODES, sample_run(), node, proposal))

    def test_the_proposed_pairs_of_the_receiver_are_opened(self):
        nodes = ["a", "b", "c", "d"]
        run = [("send", "a", ["d"]), ("send", "a", ["b"]), ("send", "c", ["d"]), ("send", "c", ["b"]),
               ("open", "b", ("a", 2)), ("open", "b", ("c", 2))]
        last = [("send", "b", ["d"]), ("open", "d", ("b", 1))]
        self.assertEqual(harmful_run(nodes, run, "b", [(("a", 1), "d")]), run + [("open", "d", ("a", 1))] + last)
        self.assertEqual(harmful_run(nodes, run, "b", [(("c", 1), "d")]), run + [("open", "d", ("c", 1))] + last)
        # Where both are missing, it is the run for the least one, in which only this one is not opened.
        self.assertEqual(harmful_run(nodes, run, "b", []), run + [("open", "d", ("c", 1))] + last)

    def test_made_runs(self):
        harmful = 0
        for nodes, run in made_runs(True):
            for node in nodes:
                for proposal in made_proposals(nodes, run, node):
                    missing = missing_pairs(nodes, run, node, proposal)
                    found = harmful_run(nodes, run, node, proposal)
                    if not missing:
                        self.assertIsNone(found)
                        continue
                    self.assertIs(is_needing_run(nodes, run, node, missing[0], found), True)
                    self.assertIs(is_causal(nodes, found[:-1]), True)
                    self.assertIs(is_causal(nodes, found), False)
                    self.assertIs(same_past(nodes, run, found[:-2], node), True)
                    harmful += 1
        self.assertGreater(harmful, 400)


class ProposalsErrorsTest(unittest.TestCase):

    def assert_error(self, error, *arguments):
        for function in FUNCTIONS:
            assert_error(self, error, function, *arguments)

    def test_order_of_errors(self):
        self.assert_error(InvalidNodes, None, None, None, None)
        self.assert_error(InvalidNodes, ["b", "a"], None, "a", [])
        self.assert_error(InvalidNodes, ["b", "a"], early_run(), "d", [FIRST, FIRST])
        self.assert_error(InvalidRun, NODES, None, None, None)
        self.assert_error(InvalidRun, NODES, early_run() + [1], "d", None)
        self.assert_error(NotCausal, NODES, early_run(), None, None)
        self.assert_error(NotCausal, NODES, early_run(), "a", [FIRST])
        self.assert_error(UnknownNode, NODES, sample_run(), "d", None)
        self.assert_error(UnknownNode, NODES, sample_run(), None, [SECOND, FIRST])
        self.assert_error(InvalidProposal, NODES, sample_run(), "a", None)

    def test_not_causal_has_the_first_index(self):
        for function in FUNCTIONS:
            with self.assertRaises(NotCausal) as caught:
                function(NODES, early_run() + [("send", "a", ["b"])], "a", [])
            self.assertEqual(vars(caught.exception), {"index": 4})

    def test_lists_that_are_no_proposals(self):
        for wrong in ([FIRST, FIRST], [SECOND, FIRST], [FIRST, THIRD, SECOND], [FIRST, SECOND, THIRD, THIRD],
                      (FIRST, SECOND), FIRST, {FIRST: True}, {FIRST}, "a.1>c", [[("a", 1), "c"]], [(["a", 1], "c")],
                      [(("a", True), "c")], [(("a", 1), ["c"])], [(("a", 1), "c", 1)], [(("a", 1), "b")], [(("a", 1), "a")],
                      [(("a", 0), "c")], [(("a", -1), "b")], [(("a", 3), "c")], [(("c", 1), "a")], [(("d", 1), "a")],
                      [("a", 1, "c")], [(("a", 1),)], [FIRST, None], [[FIRST]], [()], [(("a", False), "c")],
                      [(("a", 1), "d")], [(("b", 1), "a")], [FIRST, SECOND, (("b", 10 ** 17), "c")]):
            for node in NODES:
                self.assert_error(InvalidProposal, NODES, sample_run(), node, wrong)

    def test_any_value(self):
        for value in odd_values():
            for function in FUNCTIONS:
                self.assertRaises(InvalidNodes, function, value, sample_run(), "a", [])
                if value != []:
                    self.assertRaises(InvalidRun, function, NODES, value, "a", [])
                    self.assertRaises(InvalidProposal, function, NODES, sample_run(), "a", value)
                self.assertRaises(UnknownNode, function, NODES, sample_run(), value, [])
                for wrong in (value, (value, "c"), (("a", 1), value), (("a", value), "c"), ((value, 1), "c")):
                    self.assertRaises(InvalidProposal, function, NODES, sample_run(), "a", [wrong])
                    self.assertRaises(InvalidProposal, function, NODES, sample_run(), "a", [FIRST, SECOND, wrong])

    def test_results_are_new(self):
        run, proposal = sample_run(), [FIRST, THIRD]
        for function, expected in ((missing_pairs, [SECOND]), (spare_pairs, [THIRD])):
            found = function(NODES, run, "a", proposal)
            found.append("spoilt")
            self.assertEqual(function(NODES, run, "a", proposal), expected)
        whole = spare_pairs(NODES, run, "c", proposal)
        self.assertEqual(whole, proposal)
        self.assertIsNot(whole, proposal)
        first = harmful_run(NODES, run, "a", [])
        expected = copy.deepcopy(first)
        for event in first:
            if event[0] == "send":
                event[2].append("spoilt")
        self.assertEqual([run, proposal, harmful_run(NODES, run, "a", [])], [sample_run(), [FIRST, THIRD], expected])


if __name__ == "__main__":
    unittest.main()

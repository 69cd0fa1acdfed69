"""Point 4: runs of 150 events of 12 nodes are answered, too, without a wait that a caller would notice."""

import time
import unittest

from tests import oracle
from tests.samples import long_run, random_run
from waitlists.lists import known_counts, label_of_message, waitlist_of
from waitlists.order import first_early_open, happens_before, is_path, past_events, path_between, same_past
from waitlists.runs import is_run, messages_of, open_index, send_index

TWELVE = ["a", "b", "c", "d", "e", "f", "g", "hh", "iii", "jjjjjjjj", "kkkkkkkk", "zzzzzzzz"]
# A call takes some milliseconds; the bound is this wide because other programs may keep the machine busy.
SECONDS = 2


def limit_runs():
    """Return runs of 150 events of 12 nodes, all of them causal."""
    others = TWELVE[1:]
    chain = []
    for number in range(75):
        node, other = TWELVE[number % 12], TWELVE[(number + 1) % 12]
        many = sum(1 for event in chain if event[:2] == ("send", node)) + 1
        chain += [("send", node, [other]), ("open", other, (node, many))]
    return {
        "random": random_run(7, TWELVE, 150, True),
        "everybody": long_run(TWELVE, 150),
        "sends": [("send", "a", others)] * 150,
        "chain": chain,
        "all send": [("send", TWELVE[k % 12], [n for n in TWELVE if n != TWELVE[k % 12]]) for k in range(150)],
        "two": [("send", "a", ["b"])] * 75 + [("open", "b", ("a", k)) for k in range(1, 76)],
    }


class LimitsTest(unittest.TestCase):

    def quickly(self, function, *arguments):
        """Return the result of a call, which does not take long."""
        start = time.perf_counter()
        result = function(*arguments)
        self.assertLess(time.perf_counter() - start, SECONDS, function)
        return result

    def test_order(self):
        for name, run in limit_runs().items():
            self.assertEqual(len(run), 150, name)
            self.assertIs(self.quickly(is_run, TWELVE, run), True)
            self.assertIsNone(self.quickly(first_early_open, TWELVE, run))
            before = oracle.earlier_events(run)
            for first, second in ((0, 149), (149, 0), (0, 148), (3, 77), (75, 149)):
                expected = first in before[second]
                self.assertIs(self.quickly(happens_before, TWELVE, run, first, second), expected)
                path = self.quickly(path_between, TWELVE, run, first, second)
                self.assertIs(path is not None, expected)
                self.assertIs(self.quickly(is_path, TWELVE, run, path), expected)
            for node in TWELVE:
                self.assertEqual(self.quickly(past_events, TWELVE, run, node), sorted(oracle.past(run, node)))
                self.assertIs(self.quickly(same_past, TWELVE, run, list(run), node), True)

    def test_lists(self):
        for run in limit_runs().values():
            for node in TWELVE:
                self.assertEqual(self.quickly(known_counts, TWELVE, run, node), oracle.counts(TWELVE, run, node))
                self.assertEqual(self.quickly(waitlist_of, TWELVE, run, node), oracle.waitlist(run, node))
            message, sent = list(oracle.sent_messages(run).items())[-1]
            self.assertEqual(self.quickly(label_of_message, TWELVE, run, message),
                             (oracle.counts(TWELVE, run[:sent], message[0]), oracle.waitlist(run[:sent], message[0])))

    def test_runs(self):
        for run in limit_runs().values():
            sends = oracle.sent_messages(run)
            self.assertEqual(len(self.quickly(messages_of, TWELVE, run)), len(sends))
            message, sent = list(sends.items())[-1]
            self.assertEqual(self.quickly(send_index, TWELVE, run, message), sent)
            receiver = run[sent][2][-1]
            event = ("open", receiver, message)
            self.assertEqual(self.quickly(open_index, TWELVE, run, message, receiver),
                             run.index(event) if event in run else None)

    def test_path_through_all_events(self):
        run = limit_runs()["chain"]
        path = path_between(TWELVE, run, 0, 149)
        self.assertEqual(path, list(range(150)))

    def test_early_open_at_the_end(self):
        run = [("send", "a", ["b"])] * 149 + [("open", "b", ("a", 149))]
        self.assertEqual(self.quickly(first_early_open, TWELVE, run), 149)

    def test_somewhat_beyond_the_limit(self):
        run = long_run(TWELVE, 160)
        self.assertIs(self.quickly(is_run, TWELVE, run), True)
        self.assertEqual(self.quickly(waitlist_of, TWELVE, run, "a"), oracle.waitlist(run, "a"))


if __name__ == "__main__":
    unittest.main()

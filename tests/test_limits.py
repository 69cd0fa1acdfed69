"""Point 4: runs of 150 events of 12 nodes, nets with 150 calls and 300 receivers, and somewhat more."""

import unittest

from tests import oracle
from tests.samples import Choices, all_pairs, long_run, made_run
from waitlists.errors import Needed, NotNeeded
from waitlists.labels import is_label, label_after_open, label_after_send, start_label
from waitlists.lists import known_counts, label_of_message, waitlist_of
from waitlists.needs import is_needing_run, needing_run
from waitlists.nets import Net
from waitlists.order import first_early_open, happens_before, is_causal, is_path, past_events, path_between, same_past
from waitlists.reasons import is_reason, reason_for
from waitlists.runs import is_run, messages_of, open_index, send_index

TWELVE = ["a", "b", "c", "d", "e", "f", "g", "hh", "iii", "jjjjjjjj", "kkkkkkkk", "zzzzzzzz"]


def others_than(node):
    """Return the other eleven nodes."""
    return [other for other in TWELVE if other != node]


def limit_runs():
    """Return runs of 150 events of 12 nodes, all of them causal."""
    chain = []
    for number in range(75):
        node, other = TWELVE[number % 12], TWELVE[(number + 1) % 12]
        many = sum(1 for event in chain if event[:2] == ("send", node)) + 1
        chain += [("send", node, [other]), ("open", other, (node, many))]
    greatest = [("send", node, others_than(node)) for node in TWELVE]
    greatest += [("open", "a", (node, 1)) for node in TWELVE[1:]]
    return {
        "made": made_run(7, TWELVE, 150, True),
        "everybody": long_run(TWELVE, 150),
        "sends": [("send", "a", TWELVE[1:])] * 150,
        "chain": chain,
        "all send": [("send", TWELVE[k % 12], others_than(TWELVE[k % 12])) for k in range(150)],
        "two": [("send", "a", ["b"])] * 75 + [("open", "b", ("a", k)) for k in range(1, 76)],
        "greatest": greatest + [("send", "b", ["c"])] * 127,
    }


class LimitsTest(unittest.TestCase):

    def test_order(self):
        for name, run in limit_runs().items():
            self.assertEqual(len(run), 150, name)
            self.assertIs(is_run(TWELVE, run), True)
            self.assertIsNone(first_early_open(TWELVE, run))
            before = oracle.earlier_events(run)
            for first, second in ((0, 149), (149, 0), (0, 148), (3, 77), (75, 149)):
                expected = first in before[second]
                self.assertIs(happens_before(TWELVE, run, first, second), expected)
                path = path_between(TWELVE, run, first, second)
                self.assertIs(path is not None, expected)
                self.assertIs(is_path(TWELVE, run, path), expected)
            for node in TWELVE:
                self.assertEqual(past_events(TWELVE, run, node), sorted(oracle.past(run, node)))
                self.assertIs(same_past(TWELVE, run, list(run), node), True)

    def test_lists(self):
        for run in limit_runs().values():
            for node in TWELVE:
                self.assertEqual(known_counts(TWELVE, run, node), oracle.counts(TWELVE, run, node))
                self.assertEqual(waitlist_of(TWELVE, run, node), oracle.waitlist(run, node))
            message, sent = list(oracle.sent_messages(run).items())[-1]
            self.assertEqual(label_of_message(TWELVE, run, message), oracle.label(TWELVE, run[:sent], message[0]))

    def test_runs(self):
        for run in limit_runs().values():
            sends = oracle.sent_messages(run)
            self.assertEqual(len(messages_of(TWELVE, run)), len(sends))
            for message, sent in sends.items():
                self.assertEqual(send_index(TWELVE, run, message), sent)
            receiver = run[sent][2][-1]
            event = ("open", receiver, message)
            self.assertEqual(open_index(TWELVE, run, message, receiver), run.index(event) if event in run else None)

    def test_every_pair_of_events_and_every_beginning(self):
        run = limit_runs()["made"]
        before = oracle.earlier_events(run)
        for second in range(150):
            found = [first for first in range(150) if happens_before(TWELVE, run, first, second)]
            self.assertEqual(found, sorted(before[second]))
        for length in range(150):
            self.assertEqual(list(messages_of(TWELVE, run[:length])), sorted(oracle.sent_messages(run[:length])))
            self.assertIs(is_causal(TWELVE, run[:length]), True)

    def test_path_through_all_events(self):
        run = limit_runs()["chain"]
        self.assertEqual(path_between(TWELVE, run, 0, 149), list(range(150)))

    def test_early_open_at_the_end(self):
        run = [("send", "a", ["b"])] * 149 + [("open", "b", ("a", 149))]
        self.assertEqual(first_early_open(TWELVE, run), 149)

    def test_somewhat_beyond_the_limit(self):
        run = long_run(TWELVE, 160)
        self.assertIs(is_run(TWELVE, run), True)
        self.assertEqual(waitlist_of(TWELVE, run, "a"), oracle.waitlist(run, "a"))


class LimitsOfPairsTest(unittest.TestCase):

    def test_each_pair_is_needed_or_has_a_reason(self):
        sizes = []
        for run in limit_runs().values():
            pairs = all_pairs(run)
            for node in ("a", "zzzzzzzz"):
                waitlist = waitlist_of(TWELVE, run, node)
                sizes.append(len(waitlist))
                for pair in waitlist:
                    found = needing_run(TWELVE, run, node, pair)
                    self.assertIs(is_needing_run(TWELVE, run, node, pair, found), True)
                    self.assertIs(is_needing_run(TWELVE, run, node, pair, found[:-1]), False)
                    self.assertRaises(Needed, reason_for, TWELVE, run, node, pair)
                for pair in [pair for pair in pairs if pair not in waitlist][::7]:
                    reason = reason_for(TWELVE, run, node, pair)
                    self.assertIs(is_reason(TWELVE, run, node, pair, reason), True)
                    self.assertRaises(NotNeeded, needing_run, TWELVE, run, node, pair)
        self.assertIn(121, sizes)


class LimitsOfLabelsTest(unittest.TestCase):

    def test_labels_of_the_greatest_size(self):
        run = limit_runs()["greatest"][:23]
        label = (known_counts(TWELVE, run, "a"), waitlist_of(TWELVE, run, "a"))
        self.assertEqual(len(label[1]), 121)
        self.assertIs(is_label(TWELVE, label), True)
        self.assertEqual(label_after_send(TWELVE, label, "a", TWELVE[1:]),
                         oracle.label_after_send(TWELVE, label, "a", TWELVE[1:]))
        for receivers in (["b"], TWELVE[1:]):
            for node_label, carried in ((start_label(TWELVE), label), (label, start_label(TWELVE)), (label, label)):
                self.assertEqual(label_after_open(TWELVE, node_label, "b", ("a", 2), receivers, carried),
                                 oracle.label_after_open(TWELVE, node_label, "b", ("a", 2), receivers, carried))

    def test_counts_of_18_digits(self):
        most = 10 ** 18 - 1
        pairs = [(("a", most - 150 + number), "c") for number in range(150)]
        label = ({"a": most, "b": 0, "c": most}, pairs)
        self.assertIs(is_label(["a", "b", "c"], label), True)
        found = label_after_open(["a", "b", "c"], ({"a": most - 75, "b": 1, "c": 0}, []), "b", ("a", most), ["b"], label)
        self.assertEqual(found, ({"a": most, "b": 1, "c": most}, pairs[-74:]))
        self.assertEqual(label_after_send(["a", "b", "c"], label, "b", ["c"])[1], [(("b", 1), "c")])


class LimitsOfNetsTest(unittest.TestCase):

    def assert_settled(self, net, receivers):
        """Assert that the run of the net is causal, and that all messages are opened."""
        net.settle_all()
        run = net.recorded_run()
        self.assertEqual(sum(1 for event in run if event[0] == "open"), receivers)
        self.assertIs(is_causal(TWELVE, run), True)
        for node in TWELVE:
            self.assertEqual([net.held_by(node), net.in_transit()], [[], []])
            self.assertEqual(net.label_at(node), (known_counts(TWELVE, run, node), waitlist_of(TWELVE, run, node)))

    def test_150_calls_with_300_receivers(self):
        choices = Choices(5)
        net = Net(TWELVE)
        sends = 0
        for call in range(150):
            transit = net.in_transit()
            if sends == 27 or transit and call % 5:
                net.arrive_at(*choices.one_of(transit))
            else:
                node = TWELVE[sends % 12]
                net.send_message(node, others_than(node))
                sends += 1
        self.assertEqual(sends, 27)
        net.send_message("a", ["b", "c", "d"])
        self.assert_settled(net, 300)

    def test_all_arrive_in_the_wrong_order(self):
        net = Net(TWELVE)
        for _ in range(75):
            net.send_message("a", ["b", "c", "d", "e"])
        for number in range(75, 1, -1):
            self.assertEqual(net.arrive_at(("a", number), "b"), [])
        self.assertEqual(len(net.held_by("b")), 74)
        self.assertEqual(net.arrive_at(("a", 1), "b"), [("a", number) for number in range(1, 76)])
        self.assert_settled(net, 300)

    def test_each_message_waits_for_many(self):
        net = Net(TWELVE)
        for number in range(25):
            node = TWELVE[number % 12]
            net.send_message(node, others_than(node))
            for other in others_than(node)[:number % 3]:
                net.arrive_at((node, number // 12 + 1), other)
        for message, node in net.in_transit()[::-1]:
            net.arrive_at(message, node)
        self.assert_settled(net, 275)


if __name__ == "__main__":
    unittest.main()

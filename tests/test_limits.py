"""Point 4: runs of 150 events of 12 nodes, nets with 150 calls and 300 receivers, and somewhat more."""

import unittest
from math import factorial

from tests import oracle
from tests.samples import Choices, all_pairs, long_run, made_run
from waitlists.desk import Desk
from waitlists.errors import InvalidIndex, InvalidProposal, InvalidText, Needed, NotNeeded, TooMany
from waitlists.labels import is_label, label_after_open, label_after_send, start_label
from waitlists.lists import known_counts, label_of_message, waitlist_of
from waitlists.needs import is_needing_run, needing_run
from waitlists.nets import Net
from waitlists.openings import (closed_messages, count_openings, is_opening, longest_run, longest_size, next_opens,
                                nth_opening)
from waitlists.order import first_early_open, happens_before, is_causal, is_path, past_events, path_between, same_past
from waitlists.proposals import harmful_run, missing_pairs, spare_pairs
from waitlists.reasons import is_reason, reason_for
from waitlists.runs import is_run, messages_of, open_index, send_index
from waitlists.texts import read_pairs, read_run, show_pairs, show_run

TWELVE = ["a", "b", "c", "d", "e", "f", "g", "hh", "iii", "jjjjjjjj", "kkkkkkkk", "zzzzzzzz"]


def others_than(node):
    """Return the other eleven nodes."""
    return [other for other in TWELVE if other != node]


def limit_runs():
    """Return runs of 150 events of 12 nodes, all of them causal."""
    chain = []
    for number in range(75):
        node, other = TWELVE[number % 12], TWELVE[(number + 1) % 12]
        many = sum(1 for event in chain if event[:2] == ("send", node)) + 1
        chain += [("send", node, [other]), ("open", other, (node, many))]
    greatest = [("send", node, others_than(node)) for node in TWELVE]
    greatest += [("open", "a", (node, 1)) for node in TWELVE[1:]]
    return {
        "made": made_run(7, TWELVE, 150, True),
        "everybody": long_run(TWELVE, 150),
        "sends": [("send", "a", TWELVE[1:])] * 150,
        "chain": chain,
        "all send": [("send", TWELVE[k % 12], others_than(TWELVE[k % 12])) for k in range(150)],
        "two": [("send", "a", ["b"])] * 75 + [("open", "b", ("a", k)) for k in range(1, 76)],
        "greatest": greatest + [("send", "b", ["c"])] * 127,
    }


class LimitsTest(unittest.TestCase):

    def test_order(self):
        for name, run in limit_runs().items():
            self.assertEqual(len(run), 150, name)
            self.assertIs(is_run(TWELVE, run), True)
            self.assertIsNone(first_early_open(TWELVE, run))
            before = oracle.earlier_events(run)
            for first, second in ((0, 149), (149, 0), (0, 148), (3, 77), (75, 149)):
                expected = first in before[second]
                self.assertIs(happens_before(TWELVE, run, first, second), expected)
                path = path_between(TWELVE, run, first, second)
                self.assertIs(path is not None, expected)
                self.assertIs(is_path(TWELVE, run, path), expected)
            for node in TWELVE:
                self.assertEqual(past_events(TWELVE, run, node), sorted(oracle.past(run, node)))
                self.assertIs(same_past(TWELVE, run, list(run), node), True)

    def test_lists(self):
        for run in limit_runs().values():
            for node in TWELVE:
                self.assertEqual(known_counts(TWELVE, run, node), oracle.counts(TWELVE, run, node))
                self.assertEqual(waitlist_of(TWELVE, run, node), oracle.waitlist(run, node))
            message, sent = list(oracle.sent_messages(run).items())[-1]
            self.assertEqual(label_of_message(TWELVE, run, message), oracle.label(TWELVE, run[:sent], message[0]))

    def test_runs(self):
        for run in limit_runs().values():
            sends = oracle.sent_messages(run)
            self.assertEqual(len(messages_of(TWELVE, run)), len(sends))
            for message, sent in sends.items():
                self.assertEqual(send_index(TWELVE, run, message), sent)
            receiver = run[sent][2][-1]
            event = ("open", receiver, message)
            self.assertEqual(open_index(TWELVE, run, message, receiver), run.index(event) if event in run else None)

    def test_every_pair_of_events_and_every_beginning(self):
        run = limit_runs()["made"]
        before = oracle.earlier_events(run)
        for second in range(150):
            found = [first for first in range(150) if happens_before(TWELVE, run, first, second)]
            self.assertEqual(found, sorted(before[second]))
        for length in range(150):
            self.assertEqual(list(messages_of(TWELVE, run[:length])), sorted(oracle.sent_messages(run[:length])))
            self.assertIs(is_causal(TWELVE, run[:length]), True)

    def test_path_through_all_events(self):
        run = limit_runs()["chain"]
        self.assertEqual(path_between(TWELVE, run, 0, 149), list(range(150)))

    def test_early_open_at_the_end(self):
        run = [("send", "a", ["b"])] * 149 + [("open", "b", ("a", 149))]
        self.assertEqual(first_early_open(TWELVE, run), 149)

    def test_somewhat_beyond_the_limit(self):
        run = long_run(TWELVE, 160)
        self.assertIs(is_run(TWELVE, run), True)
        self.assertEqual(waitlist_of(TWELVE, run, "a"), oracle.waitlist(run, "a"))


class LimitsOfPairsTest(unittest.TestCase):

    def test_each_pair_is_needed_or_has_a_reason(self):
        sizes = []
        for run in limit_runs().values():
            pairs = all_pairs(run)
            for node in ("a", "zzzzzzzz"):
                waitlist = waitlist_of(TWELVE, run, node)
                sizes.append(len(waitlist))
                for pair in waitlist:
                    found = needing_run(TWELVE, run, node, pair)
                    self.assertIs(is_needing_run(TWELVE, run, node, pair, found), True)
                    self.assertIs(is_needing_run(TWELVE, run, node, pair, found[:-1]), False)
                    self.assertRaises(Needed, reason_for, TWELVE, run, node, pair)
                for pair in [pair for pair in pairs if pair not in waitlist][::7]:
                    reason = reason_for(TWELVE, run, node, pair)
                    self.assertIs(is_reason(TWELVE, run, node, pair, reason), True)
                    self.assertRaises(NotNeeded, needing_run, TWELVE, run, node, pair)
        self.assertIn(121, sizes)


class LimitsOfLabelsTest(unittest.TestCase):

    def test_labels_of_the_greatest_size(self):
        run = limit_runs()["greatest"][:23]
        label = (known_counts(TWELVE, run, "a"), waitlist_of(TWELVE, run, "a"))
        self.assertEqual(len(label[1]), 121)
        self.assertIs(is_label(TWELVE, label), True)
        self.assertEqual(label_after_send(TWELVE, label, "a", TWELVE[1:]),
                         oracle.label_after_send(TWELVE, label, "a", TWELVE[1:]))
        for receivers in (["b"], TWELVE[1:]):
            for node_label, carried in ((start_label(TWELVE), label), (label, start_label(TWELVE)), (label, label)):
                self.assertEqual(label_after_open(TWELVE, node_label, "b", ("a", 2), receivers, carried),
                                 oracle.label_after_open(TWELVE, node_label, "b", ("a", 2), receivers, carried))

    def test_counts_of_18_digits(self):
        most = 10 ** 18 - 1
        pairs = [(("a", most - 150 + number), "c") for number in range(150)]
        label = ({"a": most, "b": 0, "c": most}, pairs)
        self.assertIs(is_label(["a", "b", "c"], label), True)
        found = label_after_open(["a", "b", "c"], ({"a": most - 75, "b": 1, "c": 0}, []), "b", ("a", most), ["b"], label)
        self.assertEqual(found, ({"a": most, "b": 1, "c": most}, pairs[-74:]))
        self.assertEqual(label_after_send(["a", "b", "c"], label, "b", ["c"])[1], [(("b", 1), "c")])


class LimitsOfNetsTest(unittest.TestCase):

    def assert_settled(self, net, receivers):
        """Assert that the run of the net is causal, and that all messages are opened."""
        net.settle_all()
        run = net.recorded_run()
        self.assertEqual(sum(1 for event in run if event[0] == "open"), receivers)
        self.assertIs(is_causal(TWELVE, run), True)
        for node in TWELVE:
            self.assertEqual([net.held_by(node), net.in_transit()], [[], []])
            self.assertEqual(net.label_at(node), (known_counts(TWELVE, run, node), waitlist_of(TWELVE, run, node)))

    def test_150_calls_with_300_receivers(self):
        choices = Choices(5)
        net = Net(TWELVE)
        sends = 0
        for call in range(150):
            transit = net.in_transit()
            if sends == 27 or transit and call % 5:
                net.arrive_at(*choices.one_of(transit))
            else:
                node = TWELVE[sends % 12]
                net.send_message(node, others_than(node))
                sends += 1
        self.assertEqual(sends, 27)
        net.send_message("a", ["b", "c", "d"])
        self.assert_settled(net, 300)

    def test_all_arrive_in_the_wrong_order(self):
        net = Net(TWELVE)
        for _ in range(75):
            net.send_message("a", ["b", "c", "d", "e"])
        for number in range(75, 1, -1):
            self.assertEqual(net.arrive_at(("a", number), "b"), [])
        self.assertEqual(len(net.held_by("b")), 74)
        self.assertEqual(net.arrive_at(("a", 1), "b"), [("a", number) for number in range(1, 76)])
        self.assert_settled(net, 300)

    def test_each_message_waits_for_many(self):
        net = Net(TWELVE)
        for number in range(25):
            node = TWELVE[number % 12]
            net.send_message(node, others_than(node))
            for other in others_than(node)[:number % 3]:
                net.arrive_at((node, number // 12 + 1), other)
        for message, node in net.in_transit()[::-1]:
            net.arrive_at(message, node)
        self.assert_settled(net, 275)


class LimitsOfProposalsTest(unittest.TestCase):

    def test_proposals_of_150_pairs(self):
        for run in limit_runs().values():
            pairs = all_pairs(run)
            for node in ("a", "zzzzzzzz"):
                waitlist = waitlist_of(TWELVE, run, node)
                for proposal in ([], pairs[:150], pairs[-150:], waitlist, waitlist[1:], waitlist[:-1]):
                    missing = [pair for pair in waitlist if pair not in proposal]
                    self.assertEqual(missing_pairs(TWELVE, run, node, proposal), missing)
                    self.assertEqual(spare_pairs(TWELVE, run, node, proposal),
                                     [pair for pair in proposal if pair not in waitlist])
                    found = harmful_run(TWELVE, run, node, proposal)
                    if missing:
                        self.assertIs(is_needing_run(TWELVE, run, node, missing[0], found), True)
                    else:
                        self.assertIsNone(found)
                self.assertRaises(InvalidProposal, missing_pairs, TWELVE, run, node, pairs[:149][::-1] + [pairs[0]])

    def test_waitlist_of_the_greatest_size(self):
        run = limit_runs()["greatest"]
        waitlist = waitlist_of(TWELVE, run, "a")
        self.assertEqual(len(waitlist), 121)
        self.assertEqual(missing_pairs(TWELVE, run, "a", []), waitlist)
        self.assertEqual(spare_pairs(TWELVE, run, "c", waitlist)[:2], waitlist[:2])


def twelve_closed(relations):
    """Return a run in which twelve messages to a are closed: each sender knows those that it is said to follow.

    The senders are eleven nodes, and the first one sends two of the messages.
    """
    run = []
    numbers = {node: 0 for node in TWELVE}
    for node in TWELVE[1:] + TWELVE[1:2]:
        for other in relations.get(node, []):
            run.append(("send", other, [node]))
            numbers[other] += 1
            run.append(("open", node, (other, numbers[other])))
        run.append(("send", node, ["a"]))
        numbers[node] += 1
    return run


class LimitsOfOrdersTest(unittest.TestCase):

    def assert_orders(self, run, many):
        """Assert that the closed messages of a have so many orders, and that some of them are in order."""
        self.assertEqual(len(closed_messages(TWELVE, run, "a")), 12)
        self.assertEqual(count_openings(TWELVE, run, "a"), many)
        numbers = sorted({0, 1, 2, many // 7, many // 3, many // 2, many // 2 + 1, many - 2, many - 1})
        orders = [nth_opening(TWELVE, run, "a", number) for number in numbers if 0 <= number < many]
        self.assertEqual(orders, sorted(orders))
        for first, second in zip(orders, orders[1:]):
            self.assertNotEqual(first, second)
        for order in orders:
            self.assertEqual(sorted(order), closed_messages(TWELVE, run, "a"))
            self.assertIs(is_opening(TWELVE, run, "a", order), True)
        for number in (-1, many, many + 1, factorial(12)):
            self.assertRaises(InvalidIndex, nth_opening, TWELVE, run, "a", number)
        return orders

    def test_any_order(self):
        run = twelve_closed({})
        orders = self.assert_orders(run, factorial(12) // 2)
        messages = closed_messages(TWELVE, run, "a")
        self.assertEqual(orders[0], messages)
        self.assertEqual(orders[1], messages[:-2] + [messages[-1], messages[-2]])
        self.assertEqual(orders[-1], messages[2:][::-1] + messages[:2])
        self.assertEqual(next_opens(TWELVE, run), [("a", (node, 1)) for node in TWELVE[1:]])

    def test_two_rows_side_by_side(self):
        rows = [TWELVE[1:7], TWELVE[7:]]
        relations = {second: [first] for row in rows for first, second in zip(row, row[1:])}
        run = [("send", "b", ["a"])] * 6 + [("send", "c", ["a"])] * 6
        self.assert_orders(run, factorial(12) // factorial(6) ** 2)
        # The second message of the first node comes at any of six places in its row, and this row at any in the other.
        self.assert_orders(twelve_closed(relations), 6 * factorial(12) // factorial(7) // factorial(5))

    def test_one_first_then_any_order(self):
        run = twelve_closed({node: ["b"] for node in TWELVE[2:]})
        self.assert_orders(run, factorial(11))

    def test_one_order_alone(self):
        self.assert_orders([("send", "b", ["a"])] * 12, 1)
        run = [("send", "b", ["a"])] * 13
        self.assertRaises(TooMany, count_openings, TWELVE, run, "a")
        self.assertRaises(TooMany, nth_opening, TWELVE, run, "a", 0)

    def test_at_the_end_of_a_run_of_150_events(self):
        run = [("send", "b", ["c"])] * 138 + [("send", node, ["a"]) for node in TWELVE[1:]]
        run.append(("send", "b", ["a"]))
        self.assertEqual(len(run), 150)
        self.assert_orders(run, factorial(12) // 2)

    def test_150_closed_messages(self):
        for run in limit_runs().values():
            sends, before = oracle.sent_messages(run), oracle.earlier_events(run)
            possible = []
            for node in TWELVE:
                closed = oracle.closed(run, node)
                self.assertEqual(closed_messages(TWELVE, run, node), closed)
                indices = {sends[message] for message in closed}
                possible += [(node, message) for message in closed if not indices & before[sends[message]]]
            self.assertEqual(next_opens(TWELVE, run), possible)
        run = limit_runs()["sends"]
        order = [("a", number) for number in range(1, 151)]
        self.assertIs(is_opening(TWELVE, run, "zzzzzzzz", order), True)
        self.assertIs(is_opening(TWELVE, run, "zzzzzzzz", order[:-2] + order[-2:][::-1]), False)
        self.assertIs(is_opening(TWELVE, run, "zzzzzzzz", order[:-1]), False)

    def test_longest_waitlist(self):
        self.assertEqual(longest_size(TWELVE), 121)
        for node in TWELVE:
            run = longest_run(TWELVE, node)
            self.assertEqual(waitlist_of(TWELVE, run, node), oracle.waitlist(run, node))
            self.assertEqual([len(waitlist_of(TWELVE, run, node)), first_early_open(TWELVE, run)], [121, None])


class LimitsOfTextsTest(unittest.TestCase):

    def test_runs(self):
        for run in limit_runs().values():
            text = show_run(TWELVE, run)
            self.assertEqual(text, oracle.run_text(run))
            self.assertEqual(read_run(TWELVE, text), run)
            self.assertEqual(read_pairs(TWELVE, show_pairs(TWELVE, all_pairs(run))), all_pairs(run))

    def test_texts_of_4000_characters(self):
        text = " ".join(["a>b"] * 1000)
        self.assertEqual(len(text), 3999)
        self.assertEqual(read_run(TWELVE, text), [("send", "a", ["b"])] * 1000)
        self.assertRaises(InvalidText, read_run, TWELVE, text + " ")
        self.assertRaises(InvalidText, read_run, TWELVE, text[:-1] + ",")
        pairs = [(("a", number), "b") for number in range(1, 550)]
        text = show_pairs(TWELVE, pairs)
        self.assertEqual(len(text), 4283)
        self.assertEqual(read_pairs(TWELVE, text), pairs)
        self.assertRaises(InvalidText, read_pairs, TWELVE, text + " a.549>b")

    def test_numbers_of_many_digits(self):
        for digits in (18, 500, 3995):
            text = "a." + "7" * digits + ">b"
            pairs = read_pairs(TWELVE, text)
            self.assertEqual(pairs[0][0][1] * 9, 7 * (10 ** digits - 1))
            self.assertEqual(show_pairs(TWELVE, pairs), text)
        pairs = [(("a", 10 ** 18 - 150 + number), "zzzzzzzz") for number in range(150)]
        self.assertEqual(read_pairs(TWELVE, show_pairs(TWELVE, pairs)), pairs)

    def test_other_texts_of_4000_characters(self):
        for text in ("a" * 4000, ">" * 4000, "a>" + "b," * 1999, "." * 4000, "0" * 4000, "9" * 4000, "b<a." + "9" * 3996,
                     " " * 4000, "b<a.1 " * 666, "a>b " * 1000, "a.1>b " * 666, "<" * 4000, "," * 4000):
            self.assertRaises(InvalidText, read_run, TWELVE, text)
            self.assertRaises(InvalidText, read_pairs, TWELVE, text)


class LimitsOfDesksTest(unittest.TestCase):

    def test_150_calls_with_300_receivers(self):
        desk, net = Desk(), Net(TWELVE)
        desk.execute("nodes " + " ".join(TWELVE))
        choices = Choices(9)
        sends = 0
        for call in range(150):
            transit = net.in_transit()
            if sends == 27 or transit and call % 5:
                message, node = choices.one_of(transit)
                opened = net.arrive_at(message, node)
                found = desk.execute(f"arrive {oracle.message_text(message)} {node}")
                self.assertEqual(found, " ".join(oracle.message_text(each) for each in opened) or "held")
            else:
                node = TWELVE[sends % 12]
                net.send_message(node, others_than(node))
                desk.execute(" ".join(["send", node] + others_than(node)))
                sends += 1
        for _ in range(2):
            run = net.recorded_run()
            self.assertEqual(desk.execute("run"), oracle.run_text(run))
            for node in TWELVE:
                waitlist = net.label_at(node)[1]
                self.assertEqual(desk.execute("waitlist " + node), oracle.pairs_text(waitlist) or "empty")
                for message, receiver in all_pairs(run)[::11]:
                    found = desk.execute(f"reason {oracle.message_text(message)} {node} {receiver}")
                    self.assertEqual(found == "needed", (message, receiver) in waitlist)
            self.assertEqual(desk.execute("settle"), str(net.settle_all()))


if __name__ == "__main__":
    unittest.main()

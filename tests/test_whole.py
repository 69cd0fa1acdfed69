"""Points 15 to 22 over the whole program: what its files tell about the same runs fits together."""

import unittest

from tests.samples import Choices, all_pairs, made_receivers, made_runs, told
from waitlists.errors import Needed, NotNeeded
from waitlists.labels import is_label, label_after_open, label_after_send, start_label
from waitlists.lists import known_counts, label_of_message, waitlist_of
from waitlists.needs import is_needing_run, needing_run
from waitlists.nets import Net
from waitlists.openings import closed_messages, count_openings, is_opening, longest_run, longest_size, next_opens, nth_opening
from waitlists.order import is_causal, past_events, same_past
from waitlists.proposals import harmful_run, missing_pairs, spare_pairs
from waitlists.reasons import is_reason, reason_for
from waitlists.runs import is_run, messages_of, open_index
from waitlists.texts import read_pairs, read_run, show_pairs, show_run


def made_nets():
    """Return some (nodes, net) in which some messages are in transit, some are held, and some are opened."""
    rows = []
    for start in range(30):
        choices = Choices(start + 100)
        nodes = ["a", "b", "c", "d", "e"][:2 + start % 4]
        net = Net(nodes)
        for _ in range(20):
            transit = net.in_transit()
            if transit and choices.below(5) < 3:
                net.arrive_at(*choices.one_of(transit))
            else:
                node = choices.one_of(nodes)
                net.send_message(node, made_receivers(choices, nodes, node))
        rows.append((nodes, net))
    return rows


class NetsAndRunsTest(unittest.TestCase):

    def test_recorded_run_is_causal_and_gives_the_labels(self):
        held = 0
        for nodes, net in made_nets():
            run = net.recorded_run()
            self.assertEqual([is_run(nodes, run), is_causal(nodes, run)], [True, True])
            for node in nodes:
                label = (known_counts(nodes, run, node), waitlist_of(nodes, run, node))
                self.assertEqual(net.label_at(node), label)
                self.assertIs(is_label(nodes, label), True)
                self.assertLessEqual(len(label[1]), longest_size(nodes))
                held += len(net.held_by(node))
        self.assertGreater(held, 10)

    def test_held_and_in_transit_are_closed(self):
        for nodes, net in made_nets():
            run = net.recorded_run()
            for node in nodes:
                arriving = [message for message, receiver in net.in_transit() if receiver == node]
                self.assertEqual(closed_messages(nodes, run, node), sorted(net.held_by(node) + arriving))
                opened = [message for message in messages_of(nodes, run)
                          if open_index(nodes, run, message, node) is not None]
                self.assertEqual(sorted(net.opened_by(node)), opened)

    def test_what_blocks_nothing_is_possible_next(self):
        for nodes, net in made_nets():
            run = net.recorded_run()
            free = [(node, message) for node in nodes for message in closed_messages(nodes, run, node)
                    if not net.blocked_by(message, node)]
            self.assertEqual(next_opens(nodes, run), free)

    def test_settled_nets_have_opened_all(self):
        for nodes, net in made_nets():
            before = net.recorded_run()
            net.settle_all()
            run = net.recorded_run()
            self.assertIs(is_causal(nodes, run), True)
            self.assertEqual(next_opens(nodes, run), [])
            for node in nodes:
                self.assertEqual(closed_messages(nodes, run, node), [])
                order = [message for kind, other, message in run[len(before):] if other == node]
                self.assertIs(is_opening(nodes, before, node, order), True)

    def test_labels_step_by_step(self):
        for nodes, net in made_nets():
            run = net.recorded_run()
            receivers_of = messages_of(nodes, run)
            labels = {node: start_label(nodes) for node in nodes}
            for kind, node, detail in run:
                if kind == "send":
                    labels[node] = label_after_send(nodes, labels[node], node, detail)
                else:
                    labels[node] = label_after_open(nodes, labels[node], node, detail, receivers_of[detail],
                                                    label_of_message(nodes, run, detail))
            self.assertEqual(labels, {node: net.label_at(node) for node in nodes})


class PairsTest(unittest.TestCase):

    def test_each_pair_is_needed_or_has_a_reason_and_never_both(self):
        found = {"needed": 0, "unknown": 0, "opened": 0, "covered": 0}
        for nodes, net in made_nets():
            run = net.recorded_run()
            for node in nodes:
                waitlist = waitlist_of(nodes, run, node)
                for pair in all_pairs(run):
                    reason = told(reason_for, nodes, run, node, pair)
                    needing = told(needing_run, nodes, run, node, pair)
                    if pair in waitlist:
                        self.assertIs(reason[0], Needed)
                        self.assertIs(is_needing_run(nodes, run, node, pair, needing), True)
                        found["needed"] += 1
                    else:
                        self.assertIs(needing[0], NotNeeded)
                        self.assertIs(is_reason(nodes, run, node, pair, reason), True)
                        found[reason[0]] += 1
        self.assertGreater(min(found.values()), 50)

    def test_needing_runs_look_the_same_until_the_last_event(self):
        for nodes, net in made_nets():
            run = net.recorded_run()
            for node in nodes:
                for pair in waitlist_of(nodes, run, node):
                    found = needing_run(nodes, run, node, pair)
                    self.assertEqual([is_causal(nodes, found[:-1]), is_causal(nodes, found)], [True, False])
                    self.assertIs(same_past(nodes, run, found[:-2], node), True)
                    self.assertIs(same_past(nodes, run + [found[-2]], found[:-1], node), True)
                    # The message carries the whole waitlist, so the rule does not allow the open.
                    message = found[-1][2]
                    self.assertIn(pair, label_of_message(nodes, found[:-1], message)[1])
                    self.assertNotIn((pair[1], message), next_opens(nodes, found[:-1]))
                    # The pair is the only one that prevents it.
                    if (pair[1], pair[0]) in next_opens(nodes, found[:-1]):
                        self.assertIs(is_causal(nodes, found[:-1] + [("open", pair[1], pair[0]), found[-1]]), True)

    def test_the_waitlist_as_a_proposal(self):
        for nodes, net in made_nets():
            run = net.recorded_run()
            for node in nodes:
                waitlist = net.label_at(node)[1]
                self.assertEqual([missing_pairs(nodes, run, node, waitlist), spare_pairs(nodes, run, node, waitlist)], [[], []])
                self.assertIsNone(harmful_run(nodes, run, node, waitlist))
                for pair in waitlist:
                    rest = [other for other in waitlist if other != pair]
                    self.assertEqual(missing_pairs(nodes, run, node, rest), [pair])
                    self.assertEqual(harmful_run(nodes, run, node, rest), needing_run(nodes, run, node, pair))

    def test_a_carried_waitlist_is_what_must_be_opened_first(self):
        """Point 15: in a causal run a message is opened only after what is paired with the receiver."""
        for nodes, run in made_runs(True):
            for index, (kind, node, detail) in enumerate(run):
                if kind == "open":
                    for message, receiver in label_of_message(nodes, run, detail)[1]:
                        if receiver == node:
                            self.assertLess(open_index(nodes, run, message, node), index)


class TextsAndOrdersTest(unittest.TestCase):

    def test_texts_of_recorded_runs_and_waitlists(self):
        for nodes, net in made_nets():
            run = net.recorded_run()
            self.assertEqual(read_run(nodes, show_run(nodes, run)), run)
            for node in nodes:
                waitlist = net.label_at(node)[1]
                self.assertEqual(read_pairs(nodes, show_pairs(nodes, waitlist)), waitlist)
            self.assertEqual(read_pairs(nodes, show_pairs(nodes, net.in_transit())), net.in_transit())

    def test_a_run_that_was_read_is_the_same_run(self):
        for nodes, run in made_runs(True):
            copied = read_run(nodes, show_run(nodes, run))
            for node in nodes:
                self.assertEqual(past_events(nodes, copied, node), past_events(nodes, run, node))
                self.assertEqual(waitlist_of(nodes, copied, node), waitlist_of(nodes, run, node))
                self.assertIs(same_past(nodes, run, copied, node), True)

    def test_each_order_leads_to_a_run_without_closed_messages(self):
        for nodes, net in made_nets():
            run = net.recorded_run()
            for node in nodes:
                if len(closed_messages(nodes, run, node)) > 12:
                    continue
                many = count_openings(nodes, run, node)
                for number in sorted({0, many // 3, many // 2, many - 1}):
                    order = nth_opening(nodes, run, node, number)
                    opened = run + [("open", node, message) for message in order]
                    self.assertEqual([is_causal(nodes, opened), closed_messages(nodes, opened, node)], [True, []])

    def test_longest_run(self):
        for many in range(2, 13):
            nodes = list("abcdefghijkl")[:many]
            for node in nodes:
                run = longest_run(nodes, node)
                waitlist = waitlist_of(nodes, run, node)
                self.assertEqual(len(waitlist), longest_size(nodes))
                self.assertEqual(spare_pairs(nodes, run, node, all_pairs(run)),
                                 [pair for pair in all_pairs(run) if pair not in waitlist])
                for pair in waitlist[::17]:
                    self.assertIs(is_needing_run(nodes, run, node, pair, needing_run(nodes, run, node, pair)), True)


if __name__ == "__main__":
    unittest.main()

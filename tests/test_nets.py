"""waitlists/nets.py: points 14, 15 and 18."""

import copy
import unittest

from tests import oracle
from tests.samples import NODES, Choices, closed_pairs, made_receivers, made_runs, odd_values
from waitlists.errors import (InvalidNodes, InvalidPair, InvalidReceivers, NotInTransit, UnknownMessage, UnknownNode,
                              WaitError)
from waitlists.lists import label_of_message, waitlist_of
from waitlists.nets import Net
from waitlists.order import is_causal
from waitlists.runs import is_run

METHODS = ("send_message", "arrive_at", "settle_all", "in_transit", "held_by", "opened_by", "label_at", "blocked_by",
           "recorded_run")


def sample_net():
    """Return the net of the document's first example, before the message of b arrives at c."""
    net = Net(NODES)
    net.send_message("a", ["c"])
    net.send_message("a", ["b"])
    net.arrive_at(("a", 2), "b")
    net.send_message("b", ["c"])
    return net


def held_net():
    """Return a net in which c holds the message of b."""
    net = sample_net()
    net.arrive_at(("b", 1), "c")
    return net


def view(net, nodes):
    """Return all that a net tells."""
    run = net.recorded_run()
    sends = oracle.sent_messages(run)
    blocked = [net.blocked_by(message, node) for message in sends for node in run[sends[message]][2]]
    by_node = [(net.held_by(node), net.opened_by(node), net.label_at(node)) for node in nodes]
    return (run, net.in_transit(), by_node, blocked)


class SendTest(unittest.TestCase):

    def test_messages_of_each_sender_are_numbered_from_1(self):
        net = Net(NODES)
        found = [net.send_message("a", ["b"]), net.send_message("b", ["a", "c"]), net.send_message("a", ["c"])]
        self.assertEqual(found, [("a", 1), ("b", 1), ("a", 2)])

    def test_sent_message_is_in_transit_to_each_receiver(self):
        net = Net(NODES)
        net.send_message("b", ["a", "c"])
        net.send_message("a", ["c"])
        self.assertEqual(net.in_transit(), [(("a", 1), "c"), (("b", 1), "a"), (("b", 1), "c")])
        self.assertEqual([net.held_by("c"), net.opened_by("c")], [[], []])


class ArriveTest(unittest.TestCase):

    def test_message_without_waits_is_opened(self):
        net = Net(NODES)
        net.send_message("a", ["b", "c"])
        self.assertEqual(net.arrive_at(("a", 1), "c"), [("a", 1)])
        self.assertEqual([net.opened_by("b"), net.opened_by("c")], [[], [("a", 1)]])
        self.assertEqual(net.in_transit(), [(("a", 1), "b")])

    def test_message_waits(self):
        net = held_net()
        self.assertEqual([net.held_by("c"), net.opened_by("c")], [[("b", 1)], []])
        self.assertEqual(net.in_transit(), [(("a", 1), "c")])
        self.assertEqual(net.arrive_at(("a", 1), "c"), [("a", 1), ("b", 1)])
        self.assertEqual([net.held_by("c"), net.opened_by("c")], [[], [("a", 1), ("b", 1)]])

    def test_the_least_message_is_opened_first(self):
        net = Net(["a", "b", "c", "d"])
        net.send_message("b", ["a", "c", "d"])
        for node in ("a", "c"):
            net.arrive_at(("b", 1), node)
        for node in ("c", "a", "a"):
            net.send_message(node, ["d"])
        for message in (("c", 1), ("a", 2), ("a", 1)):
            self.assertEqual(net.arrive_at(message, "d"), [])
        self.assertEqual(net.held_by("d"), [("a", 1), ("a", 2), ("c", 1)])
        self.assertEqual(net.arrive_at(("b", 1), "d"), [("b", 1), ("a", 1), ("a", 2), ("c", 1)])

    def test_a_message_that_becomes_free_may_come_before_others(self):
        net = Net(["a", "b", "c", "d"])
        net.send_message("c", ["b", "d"])
        net.arrive_at(("c", 1), "b")
        net.send_message("b", ["a", "d"])
        net.arrive_at(("b", 1), "a")
        net.send_message("a", ["d"])
        net.send_message("c", ["d"])
        for message in (("c", 2), ("a", 1), ("b", 1)):
            self.assertEqual(net.arrive_at(message, "d"), [])
        self.assertEqual(net.arrive_at(("c", 1), "d"), [("c", 1), ("b", 1), ("a", 1), ("c", 2)])

    def test_held_message_that_still_waits_stays_closed(self):
        net = Net(NODES)
        for _ in range(3):
            net.send_message("a", ["b"])
        self.assertEqual(net.arrive_at(("a", 3), "b"), [])
        self.assertEqual(net.arrive_at(("a", 1), "b"), [("a", 1)])
        self.assertEqual(net.held_by("b"), [("a", 3)])
        self.assertEqual(net.arrive_at(("a", 2), "b"), [("a", 2), ("a", 3)])

    def test_numbers_ascend_as_numbers(self):
        net = Net(["a", "b"])
        for _ in range(11):
            net.send_message("a", ["b"])
        for number in (10, 9, 11, 2):
            net.arrive_at(("a", number), "b")
        self.assertEqual(net.held_by("b"), [("a", 2), ("a", 9), ("a", 10), ("a", 11)])


class SettleTest(unittest.TestCase):

    def test_settle(self):
        net = Net(NODES)
        self.assertEqual(net.settle_all(), 0)
        net.send_message("b", ["c"])
        net.send_message("a", ["b", "c"])
        self.assertEqual(net.settle_all(), 3)
        self.assertEqual(net.recorded_run()[2:], [("open", "b", ("a", 1)), ("open", "c", ("a", 1)), ("open", "c", ("b", 1))])
        self.assertEqual([net.in_transit(), net.settle_all()], [[], 0])

    def test_settle_opens_what_is_held(self):
        net = held_net()
        self.assertEqual(net.settle_all(), 1)
        self.assertEqual(net.opened_by("c"), [("a", 1), ("b", 1)])


class BlockedTest(unittest.TestCase):

    def test_held_in_transit_and_opened(self):
        net = sample_net()
        self.assertEqual(net.blocked_by(("b", 1), "c"), [("a", 1)])
        net.arrive_at(("b", 1), "c")
        self.assertEqual(net.blocked_by(("b", 1), "c"), [("a", 1)])
        net.arrive_at(("a", 1), "c")
        self.assertEqual(net.blocked_by(("b", 1), "c"), [])
        self.assertEqual(net.blocked_by(("a", 2), "b"), [])

    def test_only_the_pairs_of_the_receiver(self):
        net = Net(NODES)
        net.send_message("a", ["b"])
        net.send_message("a", ["c"])
        net.send_message("a", ["b", "c"])
        self.assertEqual([net.blocked_by(("a", 3), "b"), net.blocked_by(("a", 3), "c")], [[("a", 1)], [("a", 2)]])

    def test_only_the_waitlist_counts(self):
        net = Net(NODES)
        for _ in range(3):
            net.send_message("a", ["b"])
        self.assertEqual(net.blocked_by(("a", 3), "b"), [("a", 2)])

    def test_several_in_ascending_order(self):
        net = Net(["a", "b", "c", "d"])
        for node in ("c", "b", "a"):
            net.send_message(node, ["d"])
        for node in ("b", "c"):
            net.send_message(node, ["a"])
            net.arrive_at((node, 2), "a")
        net.send_message("a", ["d"])
        self.assertEqual(net.blocked_by(("a", 2), "d"), [("a", 1), ("b", 1), ("c", 1)])


class RecordTest(unittest.TestCase):

    def test_new_net(self):
        net = Net(NODES)
        self.assertEqual(net.recorded_run(), [])
        for node in NODES:
            self.assertEqual([net.held_by(node), net.opened_by(node), net.label_at(node)],
                             [[], [], ({"a": 0, "b": 0, "c": 0}, [])])

    def test_record_has_no_arrivals(self):
        net = held_net()
        expected = [("send", "a", ["c"]), ("send", "a", ["b"]), ("open", "b", ("a", 2)), ("send", "b", ["c"])]
        self.assertEqual(net.recorded_run(), expected)
        net.arrive_at(("a", 1), "c")
        self.assertEqual(net.recorded_run(), expected + [("open", "c", ("a", 1)), ("open", "c", ("b", 1))])

    def test_opened_in_order(self):
        net = Net(NODES)
        net.send_message("a", ["c"])
        net.send_message("b", ["c"])
        net.arrive_at(("b", 1), "c")
        net.arrive_at(("a", 1), "c")
        self.assertEqual(net.opened_by("c"), [("b", 1), ("a", 1)])

    def test_label(self):
        net = sample_net()
        self.assertEqual(net.label_at("a"), ({"a": 2, "b": 0, "c": 0}, [(("a", 1), "c"), (("a", 2), "b")]))
        self.assertEqual(net.label_at("b"), ({"a": 2, "b": 1, "c": 0}, [(("b", 1), "c")]))
        self.assertEqual(list(net.label_at("b")[0]), NODES)


class MadeNetsTest(unittest.TestCase):
    """Nets beside the slow net of the oracle."""

    def assert_same(self, net, slow):
        self.assertEqual(net.recorded_run(), slow.run)
        self.assertEqual(net.in_transit(), slow.transit())
        for node in slow.nodes:
            self.assertEqual(net.held_by(node), slow.held(node))
            self.assertEqual(net.opened_by(node), [event[2] for event in slow.run if event[:2] == ("open", node)])
            self.assertEqual(net.label_at(node), oracle.label(slow.nodes, slow.run, node))
        sends = oracle.sent_messages(slow.run)
        for message, sent in sends.items():
            for node in slow.run[sent][2]:
                self.assertEqual(net.blocked_by(message, node), slow.blockers(message, node))

    def assert_guarantees(self, net, nodes):
        """Points 15 and 18, for a net as it is."""
        run = net.recorded_run()
        self.assertIs(is_run(nodes, run), True)
        self.assertIs(is_causal(nodes, run), True)
        for node in nodes:
            waitlist = net.label_at(node)[1]
            self.assertEqual(waitlist, waitlist_of(nodes, run, node))
            self.assertNotIn(node, [receiver for _, receiver in waitlist])
            places = [(receiver, message[0]) for message, receiver in waitlist]
            self.assertEqual(len(places), len(set(places)))
            self.assertLessEqual(len(waitlist), (len(nodes) - 1) ** 2)

    def test_beside_the_slow_net(self):
        waits = 0
        for start in range(40):
            choices = Choices(start)
            nodes = ["a", "b", "c", "d", "e"][:2 + start % 4]
            net, slow = Net(nodes), oracle.SlowNet(nodes)
            for _ in range(16):
                transit = slow.transit()
                if transit and choices.below(2):
                    message, node = choices.one_of(transit)
                    self.assertEqual(net.arrive_at(message, node), slow.arrive(message, node))
                    waits += len(slow.held(node))
                else:
                    node = choices.one_of(nodes)
                    receivers = made_receivers(choices, nodes, node)
                    self.assertEqual(net.send_message(node, receivers), slow.send(node, receivers))
            self.assert_same(net, slow)
            self.assert_guarantees(net, nodes)
            transit = slow.transit()
            for message, node in transit:
                slow.arrive(message, node)
            self.assertEqual(net.settle_all(), len(transit))
            self.assert_same(net, slow)
            self.assert_guarantees(net, nodes)
            self.assertEqual(closed_pairs(net.recorded_run()), [])
        self.assertGreater(waits, 20)

    def test_each_causal_run_follows_the_rule(self):
        for nodes, run in made_runs(True):
            net = Net(nodes)
            for kind, node, detail in run:
                if kind == "send":
                    message = net.send_message(node, detail)
                    self.assertEqual(label_of_message(nodes, net.recorded_run(), message)[1],
                                     oracle.waitlist(net.recorded_run()[:-1], node))
                else:
                    self.assertEqual(net.arrive_at(detail, node), [detail])
            self.assertEqual(net.recorded_run(), run)

    def test_an_open_that_is_too_early_is_held(self):
        early = 0
        for nodes, run in made_runs(False):
            first = oracle.first_early(run)
            if first is None:
                continue
            net = Net(nodes)
            for kind, node, detail in run[:first]:
                if kind == "send":
                    net.send_message(node, detail)
                else:
                    net.arrive_at(detail, node)
            self.assertEqual(net.arrive_at(run[first][2], run[first][1]), [])
            early += 1
        self.assertGreater(early, 10)

    def test_two_nets_do_not_touch_each_other(self):
        first, second = Net(NODES), Net(NODES)
        first.send_message("a", ["b"])
        self.assertEqual([second.in_transit(), second.recorded_run(), second.send_message("a", ["c"])], [[], [], ("a", 1)])


class NetArgumentsTest(unittest.TestCase):

    def test_nodes_that_are_changed_after_the_call(self):
        nodes = ["a", "b", "c"]
        net = Net(nodes)
        nodes.append("d")
        nodes[0] = "x"
        self.assertEqual(net.label_at("a"), ({"a": 0, "b": 0, "c": 0}, []))
        self.assertRaises(UnknownNode, net.held_by, "d")
        self.assertRaises(InvalidReceivers, net.send_message, "a", ["d"])

    def test_receivers_that_are_changed_after_the_call(self):
        receivers = ["b"]
        net = Net(NODES)
        net.send_message("a", receivers)
        receivers.append("c")
        self.assertEqual(net.recorded_run(), [("send", "a", ["b"])])
        self.assertEqual(net.in_transit(), [(("a", 1), "b")])
        self.assertRaises(InvalidPair, net.blocked_by, ("a", 1), "c")
        self.assertEqual(net.arrive_at(("a", 1), "b"), [("a", 1)])
        self.assertEqual(net.label_at("b"), ({"a": 1, "b": 0, "c": 0}, []))

    def test_arguments_are_unchanged(self):
        nodes, receivers = ["a", "b", "c"], ["b", "c"]
        net = Net(nodes)
        net.send_message("a", receivers)
        net.settle_all()
        self.assertEqual([nodes, receivers], [["a", "b", "c"], ["b", "c"]])

    def test_results_are_new_each_time(self):
        net = held_net()
        net.send_message("a", ["b", "c"])
        before = copy.deepcopy(view(net, NODES))
        for spoilt in (net.in_transit(), net.held_by("c"), net.opened_by("b"), net.blocked_by(("b", 1), "c"),
                       net.arrive_at(("a", 3), "c"), net.recorded_run(), net.label_at("a")[1]):
            spoilt.append("spoilt")
            spoilt.reverse()
        for event in net.recorded_run():
            if event[0] == "send":
                event[2].append("spoilt")
        net.label_at("a")[0]["a"] = 99
        after = view(net, NODES)
        self.assertEqual(after[0], before[0])
        self.assertEqual(after[2][0], before[2][0])
        self.assertEqual(after[2][2], ([("a", 3), ("b", 1)], [], ({"a": 0, "b": 0, "c": 0}, [])))
        self.assertEqual(net.arrive_at(("a", 1), "c"), [("a", 1), ("a", 3), ("b", 1)])

    def test_label_of_a_message_is_kept(self):
        net = Net(NODES)
        net.send_message("a", ["c"])
        net.label_at("a")[1].clear()
        net.send_message("a", ["c"])
        self.assertEqual(net.blocked_by(("a", 2), "c"), [("a", 1)])


class NetErrorsTest(unittest.TestCase):

    def assert_error(self, error, net, name, *arguments):
        """Assert that a method raises the error, of its own class alone, and that the net is as before."""
        before = copy.deepcopy(view(net, NODES))
        with self.assertRaises(error) as caught:
            getattr(net, name)(*arguments)
        self.assertIs(caught.exception.__class__, error)
        self.assertEqual(error.__bases__, (WaitError,))
        self.assertEqual(view(net, NODES), before)

    def test_methods_stand_in_the_class_itself(self):
        for name in METHODS + ("__init__",):
            self.assertIn(name, vars(Net))

    def test_any_value_as_nodes(self):
        for value in odd_values() + [["a"], ("a", "b"), ["b", "a"]]:
            self.assertRaises(InvalidNodes, Net, value)

    def test_send_message(self):
        net = held_net()
        for value in odd_values():
            self.assert_error(UnknownNode, net, "send_message", value, ["b"])
            if value != ["a"]:
                self.assert_error(InvalidReceivers, net, "send_message", "b", value)
        for receivers in (["b"], ["a", "b"], ["c", "a"], ["a", "a"], [], ("a",), "a", ["d"], ["a", 1], None, [["a"]]):
            self.assert_error(InvalidReceivers, net, "send_message", "b", receivers)
        self.assert_error(UnknownNode, net, "send_message", "d", None)
        self.assertEqual(net.send_message("b", ["a"]), ("b", 2))

    def test_arrive_at(self):
        net = held_net()
        for value in odd_values():
            self.assert_error(UnknownMessage, net, "arrive_at", value, "c")
            self.assert_error(UnknownNode, net, "arrive_at", ("a", 1), value)
        for message, receiver in ((("a", 1), "b"), (("a", 1), "a"), (("a", 2), "b"), (("b", 1), "c"), (("b", 1), "a")):
            self.assert_error(NotInTransit, net, "arrive_at", message, receiver)
        self.assert_error(UnknownMessage, net, "arrive_at", ("a", 3), None)
        self.assert_error(UnknownNode, net, "arrive_at", ("b", 1), "d")
        self.assertEqual(net.arrive_at(("a", 1), "c"), [("a", 1), ("b", 1)])
        self.assert_error(NotInTransit, net, "arrive_at", ("a", 1), "c")

    def test_blocked_by(self):
        net = held_net()
        for value in odd_values():
            self.assert_error(UnknownMessage, net, "blocked_by", value, "c")
            self.assert_error(UnknownNode, net, "blocked_by", ("a", 1), value)
        for message, receiver in ((("a", 1), "b"), (("a", 1), "a"), (("b", 1), "a"), (("b", 1), "b")):
            self.assert_error(InvalidPair, net, "blocked_by", message, receiver)
        self.assert_error(UnknownMessage, net, "blocked_by", ("a", 3), None)

    def test_methods_of_a_node(self):
        net = held_net()
        for value in odd_values():
            for name in ("held_by", "opened_by", "label_at"):
                self.assert_error(UnknownNode, net, name, value)


if __name__ == "__main__":
    unittest.main()

"""waitlists/desk.py: point 24."""

import unittest

from tests import oracle
from tests.samples import NODES, Choices, all_pairs, made_receivers, odd_values
from waitlists.desk import Desk
from waitlists.errors import (InvalidCommand, InvalidNodes, InvalidPair, InvalidReceivers, NoNet, NotInTransit,
                              UnknownMessage, UnknownNode, WaitError)
from waitlists.lists import waitlist_of
from waitlists.nets import Net
from waitlists.reasons import reason_for
from waitlists.texts import read_pairs, read_run

LONG = "b" * 8
# One command of each kind that has the form of a command, whether or not the net has its names and messages.
COMMANDS = ["nodes a b", "send a b", "arrive a.1 b", "settle", "waitlist a", "counts a", "held a", "transit",
            "blocked a.1 b", "reason a.1 a b", "run"]


def desk_after(*rows):
    """Return a desk that has run the commands."""
    desk = Desk()
    for row in rows:
        desk.execute(row)
    return desk


def sample_desk():
    """Return the desk of the document's example, before the message of b arrives at c."""
    return desk_after("nodes a b c", "send a c", "send a b", "arrive a.2 b", "send b c")


def held_desk():
    """Return a desk on which c holds the message of b."""
    desk = sample_desk()
    desk.execute("arrive b.1 c")
    return desk


def view(desk, nodes):
    """Return all that a desk tells."""
    run = read_run(nodes, desk.execute("run").replace("empty", ""))
    rows = ["run", "transit"] + [f"{word} {node}" for word in ("waitlist", "counts", "held") for node in nodes]
    for message, receiver in all_pairs(run):
        text = oracle.message_text(message)
        rows += [f"blocked {text} {receiver}"] + [f"reason {text} {node} {receiver}" for node in nodes]
    return [(row, desk.execute(row)) for row in rows]


def messages_text(messages):
    """Return the texts of messages with spaces between."""
    return " ".join(oracle.message_text(message) for message in messages)


def expected_answers(net, nodes):
    """Return the rows and answers of `view` as the net gives them."""
    run = net.recorded_run()
    rows = [("run", oracle.run_text(run) or "empty"), ("transit", oracle.pairs_text(net.in_transit()) or "none")]
    rows += [(f"waitlist {node}", oracle.pairs_text(net.label_at(node)[1]) or "empty") for node in nodes]
    rows += [(f"counts {node}", " ".join(f"{other}={net.label_at(node)[0][other]}" for other in nodes)) for node in nodes]
    rows += [(f"held {node}", messages_text(net.held_by(node)) or "none") for node in nodes]
    for message, receiver in all_pairs(run):
        text = oracle.message_text(message)
        rows.append((f"blocked {text} {receiver}", messages_text(net.blocked_by(message, receiver)) or "free"))
        for node in nodes:
            needed = (message, receiver) in waitlist_of(nodes, run, node)
            kind = "needed" if needed else reason_for(nodes, run, node, (message, receiver))[0]
            rows.append((f"reason {text} {node} {receiver}", kind))
    return rows


class CommandsTest(unittest.TestCase):

    def test_nodes(self):
        self.assertEqual(Desk().execute("nodes a b"), "ok")
        self.assertEqual(Desk().execute("nodes a b c d e f g h i j k l"), "ok")
        self.assertEqual(Desk().execute("nodes a " + LONG), "ok")

    def test_nodes_give_a_new_net(self):
        desk = held_desk()
        self.assertEqual(desk.execute("nodes a b"), "ok")
        self.assertEqual([desk.execute(row) for row in ("run", "transit", "counts a", "waitlist a", "held a")],
                         ["empty", "none", "a=0 b=0", "empty", "none"])
        self.assertRaises(UnknownNode, desk.execute, "held c")
        self.assertEqual(desk.execute("send a b"), "a.1")
        self.assertEqual(desk.execute("nodes a b"), "ok")
        self.assertEqual(desk.execute("send a b"), "a.1")

    def test_send(self):
        desk = desk_after("nodes a b " + LONG)
        self.assertEqual([desk.execute(row) for row in ("send a b", "send b a " + LONG, "send a " + LONG)], ["a.1", "b.1", "a.2"])
        for number in range(3, 12):
            self.assertEqual(desk.execute("send a b"), f"a.{number}")
        self.assertEqual(desk.execute("send " + LONG + " a b"), LONG + ".1")
        self.assertEqual(desk.execute("run").split(" ")[:3], ["a>b", "b>a," + LONG, "a>" + LONG])

    def test_arrive(self):
        desk = sample_desk()
        self.assertEqual([desk.execute(row) for row in ("arrive b.1 c", "arrive a.1 c")], ["held", "a.1 b.1"])
        desk = desk_after("nodes a b", "send a b", "send a b")
        self.assertEqual([desk.execute(row) for row in ("arrive a.1 b", "arrive a.2 b")], ["a.1", "a.2"])

    def test_settle(self):
        desk = held_desk()
        self.assertEqual([desk.execute("settle"), desk.execute("settle"), desk.execute("held c")], ["1", "0", "none"])
        desk = desk_after("nodes a b c", *["send a b c"] * 6)
        self.assertEqual([desk.execute("settle"), desk.execute("transit")], ["12", "none"])

    def test_waitlist(self):
        desk = sample_desk()
        self.assertEqual([desk.execute("waitlist " + node) for node in NODES], ["a.1>c a.2>b", "b.1>c", "empty"])

    def test_counts(self):
        desk = sample_desk()
        self.assertEqual([desk.execute("counts " + node) for node in NODES],
                         ["a=2 b=0 c=0", "a=2 b=1 c=0", "a=0 b=0 c=0"])
        self.assertEqual(desk_after("nodes a " + LONG, *["send a " + LONG] * 10).execute("counts a"), "a=10 " + LONG + "=0")

    def test_held(self):
        desk = held_desk()
        self.assertEqual([desk.execute("held " + node) for node in NODES], ["none", "none", "b.1"])
        desk = desk_after("nodes a b c", *["send a c"] * 11)
        for number in (10, 9, 11, 2):
            self.assertEqual(desk.execute(f"arrive a.{number} c"), "held")
        self.assertEqual(desk.execute("held c"), "a.2 a.9 a.10 a.11")

    def test_transit(self):
        desk = desk_after("nodes a b c")
        self.assertEqual(desk.execute("transit"), "none")
        for row in ("send b a c", "send a b c"):
            desk.execute(row)
        self.assertEqual(desk.execute("transit"), "a.1>b a.1>c b.1>a b.1>c")
        desk.execute("arrive b.1 a")
        self.assertEqual(desk.execute("transit"), "a.1>b a.1>c b.1>c")

    def test_blocked(self):
        desk = sample_desk()
        self.assertEqual([desk.execute("blocked " + row) for row in ("b.1 c", "a.1 c", "a.2 b")], ["a.1", "free", "free"])
        desk.execute("settle")
        self.assertEqual(desk.execute("blocked b.1 c"), "free")
        desk = desk_after("nodes a b c d", "send c d", "send b d", "send a d", "send c a", "send b a", "arrive c.2 a",
                          "arrive b.2 a", "send a d")
        self.assertEqual(desk.execute("blocked a.2 d"), "a.1 b.1 c.1")

    def test_reason(self):
        desk = sample_desk()
        for row, expected in (("a.1 a c", "needed"), ("a.1 b c", "covered"), ("a.1 c c", "unknown"), ("a.2 b b", "opened"),
                              ("a.2 a b", "needed"), ("b.1 b c", "needed"), ("b.1 a c", "unknown"), ("a.2 c b", "unknown")):
            self.assertEqual(desk.execute("reason " + row), expected, row)

    def test_run(self):
        desk = held_desk()
        self.assertEqual(desk.execute("run"), "a>c a>b b<a.2 b>c")
        desk.execute("arrive a.1 c")
        self.assertEqual(desk.execute("run"), "a>c a>b b<a.2 b>c c<a.1 c<b.1")
        self.assertEqual(desk_after("nodes a b").execute("run"), "empty")

    def test_two_desks_do_not_touch_each_other(self):
        first, second = desk_after("nodes a b"), desk_after("nodes a b")
        first.execute("send a b")
        self.assertEqual([first.execute("run"), second.execute("run"), second.execute("send a b")], ["a>b", "empty", "a.1"])

    def test_methods_stand_in_the_class_itself(self):
        for name in ("__init__", "execute"):
            self.assertIn(name, vars(Desk))


class BesideNetsTest(unittest.TestCase):

    def test_answers_are_those_of_a_net_with_the_same_calls(self):
        kinds = {}
        for start in range(24):
            choices = Choices(start)
            nodes = ["a", "b", "cc", "dddddddd"][:2 + start % 3]
            desk, net = Desk(), Net(nodes)
            self.assertEqual(desk.execute("nodes " + " ".join(nodes)), "ok")
            for _ in range(12):
                transit = net.in_transit()
                if transit and choices.below(2):
                    message, node = choices.one_of(transit)
                    opened = net.arrive_at(message, node)
                    found = desk.execute(f"arrive {oracle.message_text(message)} {node}")
                    self.assertEqual(found, messages_text(opened) if opened else "held")
                else:
                    node = choices.one_of(nodes)
                    receivers = made_receivers(choices, nodes, node)
                    message = net.send_message(node, receivers)
                    self.assertEqual(desk.execute(" ".join(["send", node] + receivers)), oracle.message_text(message))
            found = view(desk, nodes)
            self.assertEqual(found, expected_answers(net, nodes))
            for row, answer in found:
                kinds[answer] = kinds.get(answer, 0) + 1
            self.assertEqual(desk.execute("settle"), str(net.settle_all()))
            self.assertEqual(view(desk, nodes), expected_answers(net, nodes))
            self.assertEqual(read_run(nodes, desk.execute("run")), net.recorded_run())
        for kind in ("needed", "unknown", "opened", "covered", "none", "free"):
            self.assertGreater(kinds[kind], 10, kind)

    def test_waitlists_can_be_read(self):
        desk = sample_desk()
        self.assertEqual(read_pairs(NODES, desk.execute("waitlist a")), [(("a", 1), "c"), (("a", 2), "b")])


class InvalidCommandsTest(unittest.TestCase):

    def assert_refused(self, row):
        """Assert that a row is refused, on a desk without a net, too, and changes nothing."""
        desk = held_desk()
        before = view(desk, NODES)
        for each in (desk, Desk()):
            with self.assertRaises(InvalidCommand) as caught:
                each.execute(row)
            self.assertIs(caught.exception.__class__, InvalidCommand)
        self.assertEqual(view(desk, NODES), before)

    def test_first_words(self):
        for row in ("", " ", "  ", "help", "Nodes a b", "NODES a b", "node a b", "nodes: a b", "sends a b", "open a.1 b",
                    "label a", "waitlists a", "runs", "Run", "runempty", "settled", "a", "a.1", "a b", "."):
            self.assert_refused(row)

    def test_numbers_of_words(self):
        for row in ("nodes", "nodes a", "send", "send a", "arrive", "arrive a.1", "arrive a.1 b c", "settle a", "settle 1",
                    "waitlist", "waitlist a b", "counts", "counts a b", "held", "held a b", "transit a", "blocked",
                    "blocked a.1", "blocked a.1 b c", "reason", "reason a.1", "reason a.1 b", "reason a.1 b c a", "run a",
                    "run run"):
            self.assert_refused(row)

    def test_spaces(self):
        for row in COMMANDS:
            for wrong in (" " + row, row + " ", row.replace(" ", "  ") + "  ", row.replace(" ", "\t") + "\t", row + "\n",
                          "\n" + row, row.replace(" ", ",") + ","):
                self.assert_refused(wrong)
            for at in range(len(row)):
                if row[at] == " ":
                    for sign in ("  ", "\t", "\n", ",", "", "_", "\u00a0"):
                        self.assert_refused(row[:at] + sign + row[at + 1:])

    def test_names(self):
        for name in ("A", "aB", "a1", "1", "b" * 9, "a_b", "a-b", "a.1", "", "\u00e4", "a\u00e4", "a,b", "*", "\u0430", "a'"):
            for row in ("nodes a " + name, "nodes " + name + " b", "nodes a b " + name, "send a " + name, "send " + name + " b",
                        "send a b " + name, "arrive a.1 " + name, "waitlist " + name, "counts " + name, "held " + name,
                        "blocked a.1 " + name, "reason a.1 " + name + " b", "reason a.1 a " + name, "arrive " + name + ".1 b"):
                self.assert_refused(row)

    def test_messages(self):
        for message in ("a", "a.", ".1", "a1", "a.0", "a.01", "a.00", "a.-1", "a.+1", "a.1.", "a.1.1", "a..1", "a.x", "a.1x",
                        "a.1_0", "A.1", "a.1,", "a,1", "1.a", "a>1", "a.1234567890", "a.1000000000", "a." + "9" * 3000,
                        "a." + "9" * 4400, "a.\u00b2", "a.\u0661", "a. 1", "(a.1)", "b" * 9 + ".1", "a2.1", "a.1>b", "a.0000000001"):
            for row in ("arrive " + message + " b", "blocked " + message + " b", "reason " + message + " a b"):
                self.assert_refused(row)

    def test_words_in_another_order(self):
        for row in ("arrive b a.1", "blocked b a.1", "reason a a.1 b", "reason a b a.1", "a nodes b", "send a.1 b", "waitlist a.1",
                    "nodes a.1 b", "send a b.1"):
            self.assert_refused(row)

    def test_any_value(self):
        for value in odd_values() + [b"settle", ["settle"], ("settle",), {"settle": 1}, ["nodes", "a", "b"], 0, 1]:
            self.assert_refused(value)

    def test_names_and_messages_that_the_net_does_not_have_are_of_the_form(self):
        desk = sample_desk()
        for row, error in (("held d", UnknownNode), ("held " + "z" * 8, UnknownNode), ("arrive a.999999999 c", UnknownMessage),
                           ("blocked z.1 c", UnknownMessage), ("blocked " + "z" * 8 + ".123456789 c", UnknownMessage),
                           ("nodes a b c d e f g h i j k l m", InvalidNodes), ("send a b c d e f", InvalidReceivers),
                           ("held none", UnknownNode), ("held run", UnknownNode)):
            self.assertRaises(error, desk.execute, row)


class DeskErrorsTest(unittest.TestCase):

    def assert_error(self, error, row, desk=None):
        """Assert that a command raises the error, of its own class alone, and that the desk is as before."""
        desk = desk or held_desk()
        before = view(desk, NODES)
        with self.assertRaises(error) as caught:
            desk.execute(row)
        self.assertIs(caught.exception.__class__, error)
        self.assertEqual([error.__bases__, WaitError.__bases__], [(WaitError,), (ValueError,)])
        self.assertEqual(view(desk, NODES), before)

    def test_no_net(self):
        for row in COMMANDS[1:] + ["send b a", "send a a", "arrive z.1 y", "reason z.1 y y"]:
            desk = Desk()
            with self.assertRaises(NoNet) as caught:
                desk.execute(row)
            self.assertIs(caught.exception.__class__, NoNet)
            self.assertEqual([desk.execute("nodes a b"), desk.execute("run")], ["ok", "empty"])

    def test_no_net_after_refused_nodes(self):
        desk = Desk()
        self.assertRaises(InvalidNodes, desk.execute, "nodes b a")
        self.assertRaises(NoNet, desk.execute, "run")
        self.assertRaises(InvalidCommand, desk.execute, "nodes a")
        self.assertRaises(NoNet, desk.execute, "settle")

    def test_nodes(self):
        for row in ("nodes b a", "nodes a a", "nodes a c b", "nodes a b b", "nodes a b c d e f g h i j k l m"):
            self.assert_error(InvalidNodes, row)
            self.assertRaises(InvalidNodes, Desk().execute, row)
        desk = held_desk()
        self.assertRaises(InvalidNodes, desk.execute, "nodes b a")
        self.assertEqual([desk.execute("arrive a.1 c"), desk.execute("send c a b")], ["a.1 b.1", "c.1"])

    def test_send(self):
        for row, error in (("send d a", UnknownNode), ("send d d", UnknownNode), ("send a a", InvalidReceivers),
                           ("send a d", InvalidReceivers), ("send a c b", InvalidReceivers), ("send a b b", InvalidReceivers),
                           ("send a b d", InvalidReceivers), ("send a a b", InvalidReceivers), ("send b a c b", InvalidReceivers)):
            self.assert_error(error, row)
        desk = held_desk()
        self.assertRaises(InvalidReceivers, desk.execute, "send a a")
        self.assertEqual(desk.execute("send a b"), "a.3")

    def test_arrive(self):
        for row, error in (("arrive a.3 c", UnknownMessage), ("arrive d.1 d", UnknownMessage), ("arrive c.1 d", UnknownMessage),
                           ("arrive a.1 d", UnknownNode), ("arrive b.1 d", UnknownNode), ("arrive a.1 b", NotInTransit),
                           ("arrive a.1 a", NotInTransit), ("arrive a.2 b", NotInTransit), ("arrive b.1 c", NotInTransit)):
            self.assert_error(error, row)

    def test_commands_of_a_node(self):
        for word in ("waitlist", "counts", "held"):
            self.assert_error(UnknownNode, word + " d")
            self.assert_error(UnknownNode, word + " aa")

    def test_blocked(self):
        for row, error in (("blocked a.3 d", UnknownMessage), ("blocked a.3 c", UnknownMessage), ("blocked d.1 c", UnknownMessage),
                           ("blocked a.1 d", UnknownNode), ("blocked a.1 b", InvalidPair), ("blocked a.1 a", InvalidPair)):
            self.assert_error(error, row)

    def test_reason(self):
        for row, error in (("reason a.1 d c", UnknownNode), ("reason a.3 d d", UnknownNode), ("reason z.1 d z", UnknownNode),
                           ("reason a.3 a c", InvalidPair), ("reason a.1 a b", InvalidPair), ("reason a.1 a a", InvalidPair),
                           ("reason a.1 a d", InvalidPair), ("reason d.1 a c", InvalidPair), ("reason a.1 c b", InvalidPair)):
            self.assert_error(error, row)
        self.assertRaises(InvalidPair, desk_after("nodes a b").execute, "reason a.1 a b")


if __name__ == "__main__":
    unittest.main()

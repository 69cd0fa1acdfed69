"""waitlists/texts.py: point 23."""

import unittest

from tests import oracle
from tests.samples import NODES, Choices, all_pairs, assert_error, early_run, made_runs, odd_values, sample_run
from waitlists.errors import InvalidNodes, InvalidProposal, InvalidRun, InvalidText
from waitlists.runs import is_run
from waitlists.texts import read_pairs, read_run, show_pairs, show_run

LONG = "a" * 8
# What is put into texts to spoil them: signs of the formats, digits, letters, and others that are alike.
SIGNS = [" ", "  ", ">", "<", ".", ",", "0", "1", "2", "+", "-", "_", "a", "b", "d", "A", "\t", "\n", "\u00b2", "\u0661", ""]


def made_pairs(start, nodes):
    """Return an ascending list of pairs of the nodes that need not be those of a run."""
    choices = Choices(start)
    numbers = [1, 2, 9, 10, 11, 99, 100, 10 ** 17, 10 ** 63, 10 ** 64 - 1, 10 ** 64, 10 ** 64 + 1, 10 ** 150 + 7]
    pairs = [((sender, number), receiver) for sender in nodes for number in numbers for receiver in nodes
             if receiver != sender]
    return choices.some_of(pairs, choices.below(12))


def spoilt_texts(text):
    """Return texts like the text, with a character left out, put in or exchanged, or words exchanged."""
    texts = [text + text, text + " " + text, " " + text, text + " ", text[::-1], text.upper()]
    for at in range(len(text) + 1):
        for sign in SIGNS:
            texts += [text[:at] + sign + text[at:], text[:at] + sign + text[at + 1:]]
    words = text.split(" ")
    for at in range(len(words) - 1):
        texts.append(" ".join(words[:at] + [words[at + 1], words[at]] + words[at + 2:]))
    return texts


def answer(function, *arguments):
    """Return the result of a call, or None if it raises InvalidText."""
    try:
        return function(*arguments)
    except InvalidText:
        return None


class ShowRunTest(unittest.TestCase):

    def test_events(self):
        self.assertEqual(show_run(NODES, []), "")
        self.assertEqual(show_run(NODES, [("send", "a", ["b"])]), "a>b")
        self.assertEqual(show_run(NODES, [("send", "b", ["a", "c"])]), "b>a,c")
        self.assertEqual(show_run(NODES, [("send", "a", ["b"]), ("open", "b", ("a", 1))]), "a>b b<a.1")
        self.assertEqual(show_run(NODES, sample_run()), "a>c a>b b<a.2 b>c")

    def test_a_run_that_is_not_causal_has_a_text(self):
        self.assertEqual(show_run(NODES, early_run()), "a>c a>b b<a.2 b>c c<b.1")
        self.assertEqual(read_run(NODES, "a>c a>b b<a.2 b>c c<b.1"), early_run())

    def test_long_names_and_numbers(self):
        nodes = ["a", LONG, "zzzzzzzz"]
        run = [("send", LONG, ["a", "zzzzzzzz"])] * 11 + [("open", "zzzzzzzz", (LONG, 11)), ("open", "a", (LONG, 10))]
        text = " ".join(["aaaaaaaa>a,zzzzzzzz"] * 11 + ["zzzzzzzz<aaaaaaaa.11", "a<aaaaaaaa.10"])
        self.assertEqual(show_run(nodes, run), text)
        self.assertEqual(read_run(nodes, text), run)

    def test_made_runs(self):
        for causal in (True, False):
            for nodes, run in made_runs(causal):
                text = show_run(nodes, run)
                self.assertEqual(text, oracle.run_text(run))
                self.assertEqual(read_run(nodes, text), run)


class ReadRunTest(unittest.TestCase):

    def test_runs(self):
        self.assertEqual(read_run(NODES, ""), [])
        self.assertEqual(read_run(NODES, "a>b,c"), [("send", "a", ["b", "c"])])
        self.assertEqual(read_run(NODES, "a>c a>b b<a.2 b>c"), sample_run())
        self.assertEqual(read_run(["a", "b"], "a>b " * 10 + "b<a.10"), [("send", "a", ["b"])] * 10 + [("open", "b", ("a", 10))])

    def test_kinds(self):
        run = read_run(NODES, "a>b,c c<a.1")
        self.assertEqual([[type(part) for part in event] for event in run], [[str, str, list], [str, str, tuple]])
        self.assertIs(type(run[1][2][1]), int)

    def test_each_list_is_new(self):
        run = read_run(NODES, "a>b a>b a>b")
        run[0][2].append("spoilt")
        self.assertEqual(run[1:], [("send", "a", ["b"])] * 2)
        self.assertEqual(read_run(NODES, "a>b a>b a>b"), [("send", "a", ["b"])] * 3)

    def test_form_of_the_words(self):
        for text in (" ", "  ", "a>b  b<a.1", " a>b", "a>b ", "a>b\tb<a.1", "a>b\nb<a.1", "a>b\n", "a", ">", "<", "a>",
                     "a<", ">b", "<b", "a>b>c", "a>b<a.1", "a>>b", "a > b", "a> b", "a >b", "a-b", "a>b;c", "A>b", "a>B",
                     "(a>b)", "'a>b'", "a.1>b", "a>b.1", "a<b", ",", "a>b,", "a>,b", "a>b,,c", "a>b, c", "a,b>c", "."):
            self.assertRaises(InvalidText, read_run, NODES, text)

    def test_receivers(self):
        self.assertEqual(read_run(NODES, "b>a,c"), [("send", "b", ["a", "c"])])
        for text in ("b>c,a", "b>a,a", "b>b", "b>a,b", "b>a,b,c", "b>d", "b>a,d", "d>a", "b>a,c,", "b>,a,c", "b>"):
            self.assertRaises(InvalidText, read_run, NODES, text)

    def test_numbers(self):
        sends = "a>b " * 12
        self.assertEqual(read_run(NODES, sends + "b<a.12")[-1], ("open", "b", ("a", 12)))
        for number in ("0", "00", "01", "012", "+1", "-1", "1.", "1.0", "1_0", " 1", "1e0", "0x1", "13", "x", "", "a", "1,",
                       "\u00b2", "\u0661", "\uff11", "1\u0661", "\u00b91", "9" * 18, "9" * 3900, "9" * 4400, "1" + "0" * 4400):
            self.assertRaises(InvalidText, read_run, NODES, sends + "b<a." + number)

    def test_runs_that_are_not_valid(self):
        for text in ("b<a.1", "b<a.1 a>b", "a>b c<a.1", "a>b a<a.1", "a>b b<a.2", "a>b b<b.1", "a>b b<c.1", "a>b b<d.1",
                     "a>b d<a.1", "a>b b<a.1 b<a.1", "a>b a>c b<a.2", "a>b <a.1", "a>b b<.1", "a>b b<a1", "a>b b<a.1.1",
                     "a>b b<a..1", "a>b b<<a.1", "a>b b<a.1<a.1"):
            self.assertRaises(InvalidText, read_run, NODES, text)

    def test_a_word_too_much_at_each_place(self):
        words = ["a>c", "a>b", "b<a.2", "b>c"]
        for at in range(len(words) + 1):
            for word in ("", "x", "a", "b<a.9", "a>a", "a>c,b", "b<a.02"):
                text = " ".join(words[:at] + [word] + words[at:])
                self.assertRaises(InvalidText, read_run, NODES, text)

    def test_spoilt_texts(self):
        """Each text that is read is the text of what was read."""
        found = {True: 0, False: 0}
        for nodes, run in made_runs(False)[:24]:
            for text in spoilt_texts(oracle.run_text(run)):
                value = answer(read_run, nodes, text)
                found[value is not None] += 1
                if value is not None:
                    self.assertIs(is_run(nodes, value), True)
                    self.assertEqual([oracle.run_text(value), show_run(nodes, value)], [text, text])
        self.assertGreater(min(found.values()), 500)

    def test_any_value(self):
        for value in odd_values() + [b"a>b", ["a>b"], ("a>b",), {"a>b": 1}, [("send", "a", ["b"])], 0, 1]:
            if value != "":
                self.assertRaises(InvalidText, read_run, NODES, value)


class PairsTest(unittest.TestCase):

    def test_show(self):
        self.assertEqual(show_pairs(NODES, []), "")
        self.assertEqual(show_pairs(NODES, [(("a", 1), "c"), (("a", 2), "b")]), "a.1>c a.2>b")
        self.assertEqual(show_pairs(NODES, [(("a", 9), "c"), (("a", 10), "b"), (("a", 10), "c"), (("c", 1), "a")]),
                         "a.9>c a.10>b a.10>c c.1>a")
        self.assertEqual(show_pairs(["a", LONG], [((LONG, 10 ** 17), "a")]), "aaaaaaaa.100000000000000000>a")

    def test_read(self):
        self.assertEqual(read_pairs(NODES, ""), [])
        self.assertEqual(read_pairs(NODES, "a.1>c a.2>b"), [(("a", 1), "c"), (("a", 2), "b")])
        self.assertEqual(read_pairs(NODES, "a.9>c a.10>b"), [(("a", 9), "c"), (("a", 10), "b")])
        pair = read_pairs(NODES, "a.1>c")[0]
        self.assertEqual([type(part) for part in (pair, pair[0], pair[0][1], pair[1])], [tuple, tuple, int, str])

    def test_any_number_of_digits(self):
        for digits in (18, 19, 63, 64, 65, 127, 128, 129, 640, 3990, 3991, 4296, 4297, 4300, 4301, 5000):
            for text in ("1" + "0" * (digits - 1), "9" * digits, ("1234567890" * digits)[:digits]):
                number = 0
                for digit in text:
                    number = number * 10 + ord(digit) - ord("0")
                row = "a." + text + ">b"
                self.assertTrue(read_pairs(["a", "b"], row) == [(("a", number), "b")], digits)
                self.assertTrue(show_pairs(["a", "b"], [(("a", number), "b")]) == row, digits)

    def test_order_is_that_of_the_numbers(self):
        for text in ("a.10>b a.9>b", "a.1>c a.1>b", "a.1>b a.1>b", "b.1>a a.1>b", "a.2>b a.1>c", "a.100>b a.99>c",
                     "a." + "9" * 100 + "0>b a." + "9" * 100 + ">b"):
            self.assertRaises(InvalidText, read_pairs, NODES, text)
        text = "a." + "9" * 100 + ">b a." + "9" * 100 + "0>b"
        self.assertEqual(show_pairs(NODES, read_pairs(NODES, text)), text)

    def test_form_of_the_words(self):
        for text in (" ", "  ", "a.1>b  a.2>b", " a.1>b", "a.1>b ", "a.1>b\n", "a.1>b\ta.2>b", "a", "a.1", "a.1>", ">b", ".1>b",
                     "a>b", "a1>b", "a.>b", "a.1<b", "a.1>>b", "a.1>b>c", "a.1>b,c", "a.1.1>b", "a..1>b", "a.1 >b", "a.1> b",
                     "A.1>b", "a.1>B", "d.1>a", "a.1>d", "a.1>a", "b.1>b", "a.1>b,", ">", ".", "a.1>.", "b<a.1", "a.1>b.1"):
            self.assertRaises(InvalidText, read_pairs, NODES, text)

    def test_form_of_the_numbers(self):
        for number in ("0", "00", "01", "+1", "-1", "1_0", "1e1", "0x1", "x", "", "1,", "\u00b2", "\u0661", "\uff11",
                       "1\u0661", "0" * 70 + "1", "0" * 64, "1" * 64 + "x", "x" + "1" * 64, "1" * 63 + "\u00b2" + "1" * 64):
            self.assertRaises(InvalidText, read_pairs, NODES, "a." + number + ">b")

    def test_made_pairs(self):
        for start in range(40):
            nodes = ["a", "b", "cc", LONG][:2 + start % 3]
            nodes = sorted(nodes)
            pairs = made_pairs(start, nodes)
            text = show_pairs(nodes, pairs)
            self.assertEqual(text, oracle.pairs_text(pairs))
            self.assertEqual(read_pairs(nodes, text), pairs)
        for nodes, run in made_runs(True):
            self.assertEqual(read_pairs(nodes, show_pairs(nodes, all_pairs(run))), all_pairs(run))

    def test_spoilt_texts(self):
        """Each text that is read is the text of what was read."""
        found = {True: 0, False: 0}
        for start in range(16):
            pairs = [pair for pair in made_pairs(start, NODES) if pair[0][1] < 10 ** 17][:5]
            for text in spoilt_texts(oracle.pairs_text(pairs)):
                value = answer(read_pairs, NODES, text)
                found[value is not None] += 1
                if value is not None:
                    self.assertEqual(value, sorted(set(value)))
                    self.assertEqual([oracle.pairs_text(value), show_pairs(NODES, value)], [text, text])
        self.assertGreater(min(found.values()), 500)

    def test_each_list_is_new(self):
        pairs = read_pairs(NODES, "a.1>c")
        pairs.append("spoilt")
        self.assertEqual(read_pairs(NODES, "a.1>c"), [(("a", 1), "c")])

    def test_lists_that_have_no_text(self):
        pair, other = (("a", 1), "b"), (("a", 2), "b")
        for wrong in ((pair,), [other, pair], [pair, pair], [list(pair)], [(["a", 1], "b")], [("a", 1, "b")], [(("a", 1),)],
                      [(("a", 1), "b", "c")], [(("a", 1, 1), "b")], [(("a", True), "b")], [(("a", False), "b")],
                      [(("a", 0), "b")], [(("a", -1), "b")], [(("a", "1"), "b")], [(("a", None), "b")], [(("a", 1), "a")],
                      [(("d", 1), "a")], [(("a", 1), "d")], [(("a", 1), ["b"])], [(("a", 1), None)], [((["a"], 1), "b")],
                      [(({}, 1), "b")], [pair, None], [None, pair], [[pair]], {pair: 1}, {pair}, "a.1>b", "", pair, b"",
                      [(("a", 1), "")], [(("", 1), "b")], [("a.1", "b")], ["a.1>b"], [(("a", [1]), "b")]):
            self.assertRaises(InvalidProposal, show_pairs, NODES, wrong)

    def test_pairs_need_not_be_those_of_a_run(self):
        self.assertEqual(show_pairs(["a", "b"], [(("b", 99), "a")]), "b.99>a")
        self.assertEqual(read_pairs(["a", "b"], "b.99>a"), [(("b", 99), "a")])

    def test_any_value(self):
        for value in odd_values() + [b"a.1>b", ["a.1>b"], 0, 1]:
            if value != []:
                self.assertRaises(InvalidProposal, show_pairs, NODES, value)
            if value != "":
                self.assertRaises(InvalidText, read_pairs, NODES, value)
            for wrong in (value, (value, "c"), (("a", 1), value), (("a", value), "c"), ((value, 1), "c")):
                if wrong not in [((sender, number), "c") for sender in ("a", "b") for number in (1, 2, 3, 4, 10 ** 17)]:
                    self.assertRaises(InvalidProposal, show_pairs, NODES, [wrong])
                    self.assertRaises(InvalidProposal, show_pairs, NODES, [(("a", 1), "b"), wrong])


class TextsErrorsTest(unittest.TestCase):

    def test_order_of_errors(self):
        for function, error in ((show_run, InvalidRun), (read_run, InvalidText), (show_pairs, InvalidProposal),
                                (read_pairs, InvalidText)):
            for nodes in (None, ["b", "a"], ["a"], ("a", "b"), "ab", LONG):
                assert_error(self, InvalidNodes, function, nodes, None)
            assert_error(self, error, function, NODES, None)

    def test_any_value(self):
        for value in odd_values():
            for function, other in ((show_run, []), (read_run, ""), (show_pairs, []), (read_pairs, "")):
                self.assertRaises(InvalidNodes, function, value, other)
            if value != []:
                self.assertRaises(InvalidRun, show_run, NODES, value)
            if value != ("send", "a", ["b"]):
                self.assertRaises(InvalidRun, show_run, NODES, sample_run() + [value])

    def test_arguments_are_unchanged(self):
        run, pairs = sample_run(), [(("a", 1), "c"), (("a", 2), "b")]
        self.assertEqual(show_run(NODES, run), show_run(NODES, run))
        self.assertEqual(show_pairs(NODES, pairs), show_pairs(NODES, pairs))
        self.assertEqual([run, pairs, NODES], [sample_run(), [(("a", 1), "c"), (("a", 2), "b")], ["a", "b", "c"]])


if __name__ == "__main__":
    unittest.main()

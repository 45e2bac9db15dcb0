"""Points [2], [3], [6]: read_nesting."""

import inspect
import itertools
import re
import unittest

from helpers import HIGH, MANY, Keeping, Raising, lists_of, short_nestings
from retrynest.errors import Unreadable
from retrynest.readings import read_nesting
from retrynest.texts import show_nesting

NUMBER = "(?:0|[1-9][0-9]{0,1999})"
COUNT = "[1-9][0-9]{0,1999}"
LAYER = f"(?:-|{NUMBER}x{COUNT}|{NUMBER}(?:,{NUMBER})*)"
TEXT = re.compile(f"none|{LAYER}(?: / {LAYER})*")

SIGNS = [chr(code) for code in range(32, 127)]

NESTINGS = [
    [],
    [[]],
    [[], []],
    [[0]],
    [(0, 1)],
    [(5, 1)],
    [(5, 3), [1, 2], []],
    [[], (1, 1), []],
    [(3, 2), (3, 2)],
    [[1, 1], [1, 2, 1]],
    [(HIGH, MANY)] * 8,
    [[HIGH, 0, HIGH], (0, MANY), [], [10 ** 11]],
    [list(range(60)), (100, 5)],
    [[7 * number % 1000 for number in range(500)]],
    [[number % 10 for number in range(1999)]],
    [[]] * 1000,
    [[3]] * 1000,
    [(10 ** 1999, 10 ** 1999)],
    [[10 ** 2000 - 1], (0, 10 ** 2000 - 1)],
]


class Interface(Raising):
    def test_parameters(self):
        self.assertEqual(list(inspect.signature(read_nesting).parameters), ["text"])

    def test_function_is_defined_in_the_file(self):
        self.assertEqual(read_nesting.__module__, "retrynest.readings")

    def test_calls_by_name(self):
        self.assertEqual(read_nesting(text="5x3 / 1,2 / -"), [(5, 3), [1, 2], []])
        self.check(Unreadable, "", lambda: read_nesting(text=""))

    def test_examples(self):
        self.check(Unreadable, "5x0", lambda: read_nesting("5x0"))

    def test_kinds_of_values(self):
        found = read_nesting("5x3 / 1,2 / -")
        self.assertIs(type(found), list)
        self.assertEqual([type(layer) for layer in found], [tuple, list, list])
        self.assertEqual([type(number) for number in [*found[0], *found[1]]], [int] * 4)


class Read(unittest.TestCase):
    def check_reading(self, nesting):
        text = show_nesting(nesting)
        found = read_nesting(text)
        self.assertEqual(found, nesting)
        self.assertEqual([type(layer) for layer in found], [type(layer) for layer in nesting])
        self.assertEqual(show_nesting(found), text)

    def test_texts_of_nestings(self):
        for nesting in NESTINGS:
            self.check_reading(nesting)

    def test_texts_of_short_nestings(self):
        for nesting in short_nestings(3):
            self.check_reading(nesting)

    def test_written_out_cases(self):
        cases = [
            ("none", []),
            ("-", [[]]),
            ("- / -", [[], []]),
            ("0", [[0]]),
            ("0,0", [[0, 0]]),
            ("10,20", [[10, 20]]),
            ("0x1", [(0, 1)]),
            ("3x1", [(3, 1)]),
            ("3x10", [(3, 10)]),
            ("3x3", [(3, 3)]),
            ("3,3", [[3, 3]]),
            ("1 / 2", [[1], [2]]),
            ("- / 5x3 / 1,2", [[], (5, 3), [1, 2]]),
        ]
        for text, nesting in cases:
            self.assertEqual(read_nesting(text), nesting)
            self.assertEqual(show_nesting(nesting), text)

    def test_numbers_of_up_to_two_thousand_digits(self):
        for count in [1, 2, 20, 64, 65, 640, 641, 1998, 1999, 2000]:
            for digits in ["9" * count, "1" + "0" * (count - 1), "7" * count]:
                number = int(digits)
                self.assertEqual(read_nesting(digits), [[number]])
                self.assertEqual(read_nesting(f"0,{digits}"), [[0, number]])
                self.assertEqual(read_nesting(f"{digits}x1"), [(number, 1)])
                self.assertEqual(read_nesting(f"0x{digits}"), [(0, number)])
        self.assertEqual(read_nesting("8" * 2000 + "x" + "8" * 1999), [(int("8" * 2000), int("8" * 1999))])

    def test_long_lists(self):
        for count in [300, 1999, 2000, 50000]:
            self.assertEqual(read_nesting(",".join(["7"] * count)), [[7] * count])

    def test_many_layers(self):
        for count in [1000, 1001, 20000]:
            self.assertEqual(read_nesting(" / ".join(["-"] * count)), [[]] * count)
            self.assertEqual(read_nesting(" / ".join(["5"] * count)), [[5]] * count)
            self.assertEqual(read_nesting(" / ".join(["5x2"] * count)), [(5, 2)] * count)


class Unread(Raising):
    def check_unreadable(self, *texts):
        for text in texts:
            with self.subTest(text=text):
                self.check(Unreadable, text, lambda: read_nesting(text))

    def check_text(self, text):
        """Check a text by the pattern above."""
        if TEXT.fullmatch(text) is None:
            self.check(Unreadable, text, lambda: read_nesting(text))
        else:
            self.assertEqual(show_nesting(read_nesting(text)), text)

    def test_the_empty_text_and_blanks(self):
        self.check_unreadable("", " ", "  ", "   ")

    def test_blanks(self):
        self.check_unreadable(
            " 5x3", "5x3 ", " 5x3 ", "5 x3", "5x 3", "5 x 3", "1 ,2", "1, 2", "1 2", "1,2 ", " 1,2", " -", "- ",
            " none", "none ", "5x3/1,2", "5x3 /1,2", "5x3/ 1,2", "5x3  / 1,2", "5x3 /  1,2", "5x3  /  1,2", "- /-",
            "-/ -", "-/-", "1 0", "5x3 / 1,2 ", " 5x3 / 1,2", "5x3 / 1, 2", "no ne",
        )

    def test_separators(self):
        self.check_unreadable(
            "/", " / ", " /", "/ ", "5x3 / ", " / 5x3", "5x3 /", "/ 5x3", "5x3 /  / 1", "5x3 / / 1", "5x3 // 1",
            "5x3 , 1", ",", ",1", "1,", "1,,2", ",,", "1,2,", ",1,2", "1,2,,3", "x", "5x", "x3", "5xx3", "5x3x2",
            "5x3x", "x5x3", "1,2x3", "1x2,3", "1x2,3x4", "5x3,1", "5x3 1,2", "1;2", "1.2", "1/2", "1|2", "1 / 2 / ",
            "1 / 2 /", "- / ", " / -", "- / / -", "- - ", "- -",
        )

    def test_leading_zeros(self):
        self.check_unreadable(
            "00", "01", "007", "0,00", "01,1", "1,01", "00x1", "05x3", "5x03", "5x00", "5x01", "0x01", "1 / 01",
            "0" + "9" * 1999, "0" * 2000, "0" * 2001, "5x0" + "9" * 1999,
        )

    def test_signs(self):
        self.check_unreadable(
            "-1", "+1", "-0", "+0", "1,-2", "1,+2", "-5x3", "+5x3", "5x-3", "5x+3", "--1", "1-", "1+", "5x3-", "-5",
            "~1", "5 / -1", "5 / +1",
        )

    def test_no_attempts(self):
        self.check_unreadable("5x0", "0x0", "1 / 5x0", "5x0 / 1", "5x3 / 5x0 / 5x2", "- / 0x0", "9" * 2000 + "x0")

    def test_letters_and_other_signs(self):
        self.check_unreadable(
            "a", "x", "X", "5X3", "5x3 / A", "5*3", "1e3", "1_000", "0x1f", "0xf", "0b1", "0o7", "1L", "one",
            "None", "NONE", "nOne", "non", "nonee", "nnone", "()", "[]", "[1,2]", "(5,3)", "(5x3)", "[5x3]",
            "'5x3'", '"5x3"', "5x3;", "5x3.", "1,2.", "=1", "#1", "1%", "5:3", "5\\3", "_", "1_0", "`1`", "1!", "?",
            "null", "trivial", "True",
        )

    def test_characters_from_elsewhere(self):
        self.check_unreadable(
            "\n", "5x3\n", "\n5x3", "5x3\t", "5x3 /\t1", "5x3\n/\n1", "1,2\r", "5x3\x00", "\u0663", "1\u0663",
            "5x\u0663", "\u00b2", "5\u00d73", "5x3\u00a0/\u00a01", "\u22121", "\uff11", "none\n", "-\n", "\u2212",
            "5x3 / \u0661,2",
        )

    def test_numbers_of_more_than_two_thousand_digits(self):
        for count in [2001, 2002, 3000, 3990, 4300, 4301, 10000]:
            digits = "9" * count
            self.check_unreadable(
                digits, f"{digits},1", f"1,{digits}", f"{digits}x1", f"1x{digits}", f"1 / {digits}",
                "1" + "0" * (count - 1),
            )
        self.check_unreadable("9" * 2001 + "x" + "9" * 1998, "9" * 1998 + "x" + "9" * 2001)

    def test_words_at_other_places(self):
        self.check_unreadable(
            "none / none", "none / 5x3", "5x3 / none", "none / -", "- / none", "none,1", "1,none", "nonex3",
            "5xnone", "-,1", "1,-", "-,-", "-x3", "5x-", "--", "- -", "nonenone", "-none", "none-", "1 / none / 2",
            "1-2", "-1,2", "none,none", "- / -,1", "- / --",
        )

    def test_all_short_texts(self):
        for length in range(7):
            for letters in itertools.product("01x,-/ ", repeat=length):
                self.check_text("".join(letters))

    def test_one_sign_is_changed(self):
        for text in ["none", "-", "0", "10", "1,20", "5x3", "10x10", "5x3 / 1,2 / -", "- / none", "1 / 0x0", "12 /  3"]:
            self.check_text(text)
            for place in range(len(text) + 1):
                self.check_text(text[:place] + text[place + 1:])
                for sign in SIGNS:
                    self.check_text(text[:place] + sign + text[place:])
                    self.check_text(text[:place] + sign + text[place + 1:])

    def test_an_unreadable_part_anywhere(self):
        for part in ["", "none", "01", "5x0", "--", "1,", "9" * 2001, " "]:
            for place in [0, 1, 7, 20]:
                layers = ["5x3", "1,2", "-"] * 7
                layers[place] = part
                self.check_unreadable(" / ".join(layers))

    def test_the_text_itself_is_the_value(self):
        text = "".join(["5x", "0"])
        with self.assertRaises(Unreadable) as raised:
            read_nesting(text)
        self.assertIs(type(raised.exception.value), str)
        self.assertEqual(raised.exception.value, text)


class Arguments(Keeping):
    def test_each_call_returns_new_lists(self):
        for text in ["none", "-", "- / -", "1,2", "5x3 / 1,2 / - / 1,2", "5x3"]:
            first, second = read_nesting(text), read_nesting(text)
            parts = lists_of(first) + lists_of(second)
            self.assertEqual(len({id(part) for part in parts}), len(parts))
            self.check_kept(read_nesting, text)

    def test_after_a_call_that_raises(self):
        self.check(Unreadable, "1,2 / 5x0", lambda: read_nesting("1,2 / 5x0"))
        self.assertEqual(read_nesting("1,2"), [[1, 2]])


if __name__ == "__main__":
    unittest.main()

"""The desk's rows: point [19], and what points [2] and [3] say of it."""

import itertools
import random
import unittest

from crossgrants.errors import BadRow
from crossgrants.rows import row_in
from helpers import SameTest
from plain_desk import drawn_row, plain_row

RIGHT_ROWS = {
    "come 0 0": ("come", 0, 0, 1), "come 20 20": ("come", 20, 20, 1), "come 3 10 1": ("come", 3, 10, 1),
    "come 0 20 300": ("come", 0, 20, 300), "come 9 0 42": ("come", 9, 0, 42),
    "wide 0 0": ("wide", 0, (0,)), "wide 20 20": ("wide", 20, (20,)), "wide 1 3 0 20": ("wide", 1, (3, 0, 20)),
    "out inlet 0": ("out", "inlet", 0), "out outlet 20": ("out", "outlet", 20),
    "in inlet 20": ("in", "inlet", 20), "in outlet 0": ("in", "outlet", 0),
    "beat": ("beat",), "go 1": ("go", 1), "go 400": ("go", 400), "again 1": ("again", 1), "again 400": ("again", 400),
    "waiting 0 20": ("waiting", 0, 20), "wides 20": ("wides", 20), "left 20 0": ("left", 20, 0),
    "within 7 11": ("within", 7, 11), "why 0": ("why", 0), "why 999": ("why", 999), "waits 0": ("waits", 0),
    "waits 999": ("waits", 999), "counts": ("counts",), "asks": ("asks",), "pointers": ("pointers",),
    "places": ("places",), "outs": ("outs",), "now": ("now",), "longest": ("longest",),
}
WRONG_ROWS = [
    "", " ", "  ", "-", "0", "come", "come 0", "come 0 0 0", "come 0 0 301", "come 0 0 1 1", "come 21 0", "come 0 21",
    "come -1 0", "come 0 -1", "come +1 0", "come 0 0 -1", "come 0 0 +1", "come 0,0", "come 0 0 1.0", "come 0x1 0",
    "come 00 0", "come 0 00", "come 01 0", "come 0 01", "come 0 0 01", "come 0 0 001", "come 0 0 1000", "come a b",
    "wide", "wide 0", "wide 0 21", "wide 21 0", "wide 0 0 0", "wide 0 1 2 1", "wide 0 01", "wide 00 1", "wide 0 1,2",
    "wide 0 -1", "wide 0 1 x", "wide inlet 0", "out", "out inlet", "out 0", "out 0 inlet", "out inlet 21",
    "out outlet -1", "out inlet 00", "out inlets 0", "out Inlet 0", "out INLET 0", "out inlet 0 0", "out  inlet 0",
    "in", "in inlet", "in outlet 21", "in let 0", "in outlet 0 1", "inlet 0", "beat 1", "beat 0", "beats", "Beat",
    "BEAT", "go",
    "go 0", "go 401", "go 400 1", "go 01", "go 1000", "go -1", "go x", "go 4_0", "go 1 ", " go 1", "go  1",
    "go 1" + "0" * 70, "again", "again 0", "again 401", "again 01", "again 1 1", "waiting", "waiting 0",
    "waiting 0 0 0", "waiting 21 0",
    "waiting 0 21", "wides", "wides 0 0", "wides 21", "wides 00", "left", "left 0", "left 0 0 0",
    "left 0 21", "within", "within 0", "within 0 0 0", "within 21 0", "why", "why 1000", "why -1", "why 00", "why 007",
    "why 0 0", "waits", "waits 1000", "waits 01", "waits 1 2", "counts 0", "asks 0", "pointers 0", "places 0", "outs 0",
    "now 0", "longest 0", "count", "ask", "pointer", "place", "out s", "now!", "long est", "Now", "COUNTS", "run",
    "log", "go 1;go 1", "go 1\n", "beat\n", "\tbeat", "come\t0 0", "go\t1", "~", "beat~", "go 1/2", "go (1)", "go '1'",
]


class RowInTest(SameTest):
    def refuse(self, text):
        self.assertIsNone(plain_row(text), text)
        self.assert_refused(BadRow, text, row_in, text)

    def check(self, text):
        wanted = plain_row(text)
        if wanted is None:
            self.refuse(text)
        else:
            self.assert_same(row_in(text), wanted)

    def test_written_out(self):
        for text, row in RIGHT_ROWS.items():
            self.assert_same(plain_row(text), row)
            self.assert_same(row_in(text), row)

    def test_refused(self):
        for text in WRONG_ROWS:
            self.refuse(text)

    def test_each_number_at_each_place(self):
        for text in RIGHT_ROWS:
            words = text.split()
            for at in range(1, len(words)):
                if words[at] not in ("inlet", "outlet"):
                    for number in [*range(0, 24), *range(295, 305), *range(395, 405), *range(995, 1005), 10**30]:
                        self.check(" ".join(words[:at] + [str(number)] + words[at + 1:]))

    def test_noughts_signs_and_blanks(self):
        for text in RIGHT_ROWS:
            words = text.split()
            for at, word in enumerate(words):
                for wrong in ("0" + word, "00", "+" + word, "-" + word, word + " ", " " + word, word + "0", word + ".",
                              word + "x", word.upper(), word.title(), "", word * 2, word + "," + word, f"{word}\n"):
                    self.check(" ".join(words[:at] + [wrong] + words[at + 1:]))
            for wrong in (text + " ", " " + text, text + "  ", text.replace(" ", "  "), text + "\n", "\n" + text,
                          text.replace(" ", "\t"), text.replace(" ", ","), text.replace(" ", ""), text * 2):
                self.check(wrong)

    def test_words_more_and_fewer(self):
        for text in RIGHT_ROWS:
            words = text.split()
            for at in range(len(words) + 1):
                for more in ("0", "1", "20", "21", "300", "inlet", "outlet", "beat", "x", "-"):
                    self.check(" ".join(words[:at] + [more] + words[at:]))
                self.check(" ".join(words[:at] + words[at + 1:]))
                self.check(" ".join(words[at:] + words[:at]))

    def test_first_words_in_capitals_and_others(self):
        for text in RIGHT_ROWS:
            for wrong in (text.upper(), text.title(), text.capitalize(), text[1:], "x" + text):
                self.check(wrong)

    def test_all_outlets_at_once(self):
        for outlets in (list(range(21)), list(range(20, -1, -1))):
            text = " ".join(["wide", "20"] + [str(outlet) for outlet in outlets])
            self.assertLessEqual(len(text), 80)
            self.assert_same(row_in(text), ("wide", 20, tuple(outlets)))

    def test_outlets_alike(self):
        for outlets in itertools.product(range(3), repeat=3):
            self.check("wide 1 " + " ".join(map(str, outlets)))

    def test_figures_of_other_scripts(self):
        for figure in ("\u00b2", "\u0663", "\uff11", "\u2460"):
            for text in ("go " + figure, "come 0 " + figure, "why " + figure, "wide 0 " + figure):
                self.refuse(text)

    def test_figures_without_end(self):
        for many in (20, 70, 5000):
            for text in ("go 1", "why 9", "come 0 1", "wide 0 1", "out inlet 1"):
                self.refuse(text + "0" * many)

    def test_drawn_rows_and_drawn_texts(self):
        draw = random.Random(471)
        signs = "".join(chr(code) for code in range(32, 127) if code != 37)
        for turn in range(3000):
            row = drawn_row(draw, 6, 6)
            self.check(row)
            at = draw.randrange(len(row) + 1)
            self.check(row[:at] + draw.choice(signs) + row[at + draw.randrange(2):])
            self.check("".join(draw.choice(signs) for sign in range(draw.randrange(81))))


if __name__ == "__main__":
    unittest.main()

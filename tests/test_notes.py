import re
import unittest
from itertools import product

from haltline.errors import BadText
from haltline.line import Line
from haltline.notes import read, written
from tests.helper import Draw

# Every sign that a text may have.
SIGNS = ["\t", "\n"] + [chr(code) for code in range(ord(" "), ord("~") + 1) if chr(code) != "%"]

GOOD = ("4-12-3 clear 1", "1 clear 0", "20 clear 5", "10-2 clear 3", "1-20-9-10-11 clear 4")


NUMBER = "(?:0|[1-9][0-9]*)"
FORM = re.compile(f"({NUMBER}(?:-{NUMBER})*) clear ({NUMBER})")


def by_the_document(text):
    """The second way: runs and gap of a text, or None."""
    found = FORM.fullmatch(text)
    if found is None:
        return None
    runs, gap = [int(run) for run in found[1].split("-")], int(found[2])
    if len(runs) > 5 or min(runs) < 1 or max(runs) > 20 or gap > 5:
        return None
    return runs, gap


class Written(unittest.TestCase):
    def test_as_the_document_shows_it(self):
        self.assertEqual(written(Line([4, 12, 3], 1)), "4-12-3 clear 1")

    def test_one_and_five_stretches(self):
        for runs, gap, text in (
            ([1], 0, "1 clear 0"), ([20], 5, "20 clear 5"), ([9], 3, "9 clear 3"), ([10], 2, "10 clear 2"),
            ([1, 1, 1, 1, 1], 0, "1-1-1-1-1 clear 0"), ([20, 20, 20, 20, 20], 5, "20-20-20-20-20 clear 5"),
            ([1, 20, 9, 10, 11], 4, "1-20-9-10-11 clear 4"),
        ):
            with self.subTest(text):
                line = Line(runs, gap)
                self.assertEqual(written(line), text)
                self.assertEqual((line.runs(), line.clear()), (runs, gap))

    def test_arguments_by_name(self):
        self.assertEqual(written(line=Line([7], 0)), "7 clear 0")
        self.assertEqual(read(text="7 clear 0").runs(), [7])


class Read(unittest.TestCase):
    def same(self, runs, gap):
        line = read(written(Line(runs, gap)))
        self.assertIs(type(line), Line)
        self.assertEqual((line.runs(), line.clear()), (runs, gap))
        self.assertIs(type(line.clear()), int)

    def refused(self, text):
        with self.subTest(text):
            with self.assertRaises(BadText):
                read(text)

    def test_as_the_document_shows_it(self):
        line = read("4-12-3 clear 1")
        self.assertIs(type(line), Line)
        self.assertEqual((line.runs(), line.clear()), ([4, 12, 3], 1))

    def test_every_run_and_gap(self):
        for run, gap in product(range(1, 21), range(6)):
            self.same([run], gap)
            self.same([20, run, 1], gap)

    def test_every_number_of_stretches(self):
        draw = Draw(51)
        for count in range(1, 6):
            for gap in range(6):
                self.same([1 + draw.upto(19) for _ in range(count)], gap)

    def test_written_of_read(self):
        for text in GOOD:
            self.assertEqual(written(read(text)), text)

    def test_empty_and_blank(self):
        for text in ("", " ", "\n", "\t", "-", "clear", " clear ", "  clear  ", "0", "4"):
            self.refused(text)

    def test_no_gap_two_gaps_no_runs(self):
        for text in (
            "4-12-3", "4-12-3 clear", "4-12-3 clear ", "4-12-3 ", "4-12-3 1", "4 1",
            "4-12-3 clear 1 1", "4-12-3 clear 1-1", "4-12-3 clear 1 clear 1", "4 clear 1 clear 1 clear 1",
            "4-12-3 clear  clear 1", "4-12-3 clear clear 1", "4 clear 1\n4 clear 1", "4 clear 1 ",
            " clear 1", "clear 1", "- clear 1", "1 clear", "4 clear 1,1", "4 clear 11",
        ):
            self.refused(text)

    def test_needless_noughts(self):
        for text in (
            "04 clear 1", "004 clear 1", "4-012 clear 1", "4-12-03 clear 1", "020 clear 1", "0020-1 clear 1",
            "4 clear 01", "4 clear 00", "4 clear 05", "4 clear 001", "00 clear 0", "0x4 clear 1", "4. clear 1",
            "4.0 clear 1", "4 clear 1.0", "4e0 clear 1",
        ):
            self.refused(text)

    def test_signs_ahead_of_a_number(self):
        for sign in "+-":
            for text in (
                "{}4-12-3 clear 1", "4-{}12-3 clear 1", "4-12-{}3 clear 1", "4-12-3 clear {}1", "{}4 clear 1",
                "4 clear {}0", "{}0 clear 0", "{0}4 clear {0}1",
            ):
                self.refused(text.format(sign))

    def test_two_signs_between_runs(self):
        for text in (
            "4--12 clear 1", "4---12 clear 1", "-4-12 clear 1", "4-12- clear 1", "--4 clear 1", "4-- clear 1",
            "4 clear --1", "4 clear 1-", "4 - 12 clear 1", "4- 12 clear 1", "4 -12 clear 1", "4-12-3-clear-1",
            "4,12 clear 1", "4 12 clear 1", "4+12 clear 1", "4_12 clear 1", "4/12 clear 1",
        ):
            self.refused(text)

    def test_underscores_within_a_number(self):
        for text in (
            "1_2 clear 1", "4-1_2-3 clear 1", "2_0 clear 1", "_4 clear 1", "4_ clear 1", "4 clear 1_", "4 clear _1",
            "4 clear 0_1", "0_4 clear 1", "1__2 clear 1",
        ):
            self.refused(text)

    def test_blanks_tabs_and_line_ends(self):
        for text in GOOD:
            for blank in (" ", "  ", "\t", "\n", "\n\n", " \n", "\t "):
                for place in range(len(text) + 1):
                    self.refused(text[:place] + blank + text[place:])
                self.refused(text.replace(" ", blank + blank))
                if blank != " ":
                    self.refused(text.replace(" ", blank))
                    self.refused(text.replace(" clear", blank + "clear"))
                    self.refused(text.replace("clear ", "clear" + blank))

    def test_another_word(self):
        for word in (
            "Clear", "CLEAR", "cleaR", "clears", "clea", "lear", "cclear", "clear clear", "gap", "free", "", "-", "1",
            "clear-", "clear:", "c", "clear of", "is clear", "clear\tclear", "claer", "cl ear",
        ):
            for runs in ("4-12-3", "4"):
                self.refused(f"{runs} {word} 1")

    def test_runs_beyond_the_bounds(self):
        for run in ("0", "21", "22", "29", "30", "99", "100", "120", "200", "1000", "9" * 50, "1" + "0" * 45, "-1", "-20"):
            for text in ("{} clear 1", "{}-4 clear 1", "4-{} clear 1", "4-{}-4 clear 1"):
                self.refused(text.format(run))

    def test_gaps_beyond_the_bounds(self):
        for gap in ("6", "7", "9", "10", "15", "50", "99", "9" * 50, "1" + "0" * 50, "-1", "-5"):
            for text in ("4 clear {}", "4-12-3 clear {}"):
                self.refused(text.format(gap))

    def test_six_runs(self):
        for count in (6, 7, 15):
            self.refused("-".join(["4"] * count) + " clear 1")
            self.refused("-".join(["1"] * count) + " clear 0")
        self.refused("20-20-20-20-20-20 clear 5")

    def test_far_too_long(self):
        for text in ("9" * 5000 + " clear 1", "4 clear " + "9" * 5000, "4" + " " * 100 + "clear 1", "4-" * 100):
            self.refused(text)

    def held(self, text):
        expected = by_the_document(text)
        if expected is None:
            self.refused(text)
        else:
            with self.subTest(text):
                line = read(text)
                self.assertEqual((line.runs(), line.clear()), expected)
                self.assertEqual(written(line), text)

    def test_a_sign_left_out_put_in_or_put_otherwise(self):
        for text in GOOD:
            self.held(text)
            for place in range(len(text) + 1):
                self.held(text[:place] + text[place + 1:])
                self.held(text[place:] + text[:place])
                for sign in SIGNS:
                    self.held(text[:place] + sign + text[place:])
                    self.held(text[:place] + sign + text[place + 1:])

    def test_texts_of_few_signs(self):
        for length in range(4):
            for signs in product("012 -\n", repeat=length):
                self.held("".join(signs) + " clear 1")
                self.held("4-1 clear " + "".join(signs))
                self.held("4" + "".join(signs) + "clear 5")

    def test_second_way(self):
        # The second way itself is held against what the document shows.
        self.assertEqual(by_the_document("4-12-3 clear 1"), ([4, 12, 3], 1))
        for text in ("", "4", "4 clear 6", "21 clear 0", "4 clear 1 clear 1", "4-4-4-4-4-4 clear 0", "4 clear 1-1"):
            self.assertIsNone(by_the_document(text))


if __name__ == "__main__":
    unittest.main()

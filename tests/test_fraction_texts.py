"""Texts of fractions, told and read [6]."""

import math
import re
import unittest

from mixbench.errors import NoText
from mixbench.ratios import fraction, fraction_text, read_fraction

GREATEST = 999999999
TOPS = list(range(-25, 26)) + [100, -100, 12345, -GREATEST, GREATEST, 100000000, -123456789]
BOTTOMS = list(range(1, 26)) + [100, 1000, 10000019, GREATEST - 1, GREATEST]
SHORT = ["0/1", "1/1", "-1/1", "3/4", "-3/4", "10/7", "-10/21", "7/10", "999999999/1", "-1/999999999"]
SIGNS = [chr(at) for at in range(ord(" "), ord("~") + 1)] + ["\n", "\t", "\r"]
WORDS = re.compile(r"(-?)(0|[1-9][0-9]{0,8})/([1-9][0-9]{0,8})")


def awaited(text):
    """What a text is read to, by another way than the program's; None where it is refused."""
    found = WORDS.fullmatch(text)
    if found is None:
        return None
    top = int(found.group(2))
    bottom = int(found.group(3))
    if math.gcd(top, bottom) != 1 or (found.group(1) and top == 0):
        return None
    return (-top if found.group(1) else top, bottom)


def changed_by_one_sign(text):
    for at in range(len(text) + 1):
        for sign in SIGNS:
            yield text[:at] + sign + text[at:]
    for at in range(len(text)):
        yield text[:at] + text[at + 1:]
        for sign in SIGNS:
            yield text[:at] + sign + text[at + 1:]
    for at in range(len(text) - 1):
        yield text[:at] + text[at + 1] + text[at] + text[at + 2:]


class Told(unittest.TestCase):
    def test_written_out(self):
        self.assertEqual(fraction_text((0, 1)), "0/1")
        self.assertEqual(fraction_text((3, 4)), "3/4")
        self.assertEqual(fraction_text((-3, 4)), "-3/4")
        self.assertEqual(fraction_text((-120, 1)), "-120/1")

    def test_numbers_of_many_figures(self):
        self.assertEqual(fraction_text((-(10 ** 12), 7)), "-1000000000000/7")
        long = "1" + "0" * 1999
        self.assertEqual(fraction_text((int(long), int(long) - 1)), long + "/" + "9" * 1999)


class Read(unittest.TestCase):
    def check_refused(self, given):
        with self.subTest(given=given):
            with self.assertRaises(NoText):
                read_fraction(given)

    def test_written_out(self):
        self.assertEqual(read_fraction("0/1"), (0, 1))
        self.assertEqual(read_fraction("-3/4"), (-3, 4))
        self.assertEqual(read_fraction("10/1"), (10, 1))
        self.assertEqual(read_fraction("999999999/999999998"), (999999999, 999999998))
        self.assertIs(type(read_fraction("1/2")), tuple)

    def test_every_text_told_is_read_again(self):
        for top in TOPS:
            for bottom in BOTTOMS:
                one = fraction(top, bottom)
                self.assertEqual(read_fraction(fraction_text(one)), one)

    def test_noughts_ahead(self):
        for given in ("01/2", "1/02", "-01/2", "00/1", "0/01", "000000001/2", "1/000000002"):
            self.check_refused(given)

    def test_signs_at_the_wrong_place(self):
        for given in ("-0/1", "+1/2", "1/+2", "+0/1", "1/-2", "-1/-2", "0/-1", "--1/2", "1-/2", "-/2", "1/-", "- 1/2"):
            self.check_refused(given)

    def test_bottom_nought(self):
        for given in ("0/0", "1/0", "-1/0", "1/00", "-0/0"):
            self.check_refused(given)

    def test_terms_that_are_not_the_lowest(self):
        for given in ("2/4", "-2/4", "0/2", "3/3", "10/5", "999999999/999999999", "-6/9"):
            self.check_refused(given)

    def test_blanks_and_line_ends(self):
        for text in SHORT:
            for end in (" ", "\n", "\t", "\r", "\r\n", "  "):
                self.check_refused(end + text)
                self.check_refused(text + end)
        for given in ("1 /2", "1/ 2", "1\n/2", "1_0/3", "1/1_1"):
            self.check_refused(given)

    def test_numbers_of_ten_figures_and_more(self):
        for given in ("1000000000/1", "-1000000000/1", "1/1000000000", "0000000001/1", "1/" + "7" * 5000, "7" * 5000 + "/1"):
            self.check_refused(given)

    def test_too_few_and_too_many_words(self):
        for given in ("", "/", "1", "-", "1/", "/1", "-/1", "1//2", "1/2/3", "/1/2", "1/2/", "x", "a/b", "0x1/2", "1.0/2"):
            self.check_refused(given)

    def test_figures_of_other_scripts(self):
        for given in ("\u0661/2", "1/\u0662", "\u00b2/1", "1/\u00b2", "\uff11/\uff12", "\u22121/2", "1\u20442"):
            self.check_refused(given)

    def test_what_is_no_text(self):
        for given in (None, True, False, 0, 1, 1.5, [], ["1/2"], ["1", "2"], (), (1, 2), ("1/2",), {}, {"1/2": 1}, b"1/2"):
            self.check_refused(given)

    def test_texts_changed_by_one_sign(self):
        read = 0
        for text in SHORT:
            for given in changed_by_one_sign(text):
                one = awaited(given)
                if one is None:
                    self.check_refused(given)
                else:
                    read += 1
                    self.assertEqual(read_fraction(given), one, given)
        self.assertGreater(read, 100)


if __name__ == "__main__":
    unittest.main()

"""cleanrows.rowtexts: points 5 and 6, and of 2 and 3 what speaks of rows."""

import unittest

from cleanrows.errors import CleanError, NoRow
from cleanrows.rowtexts import read_row, row_text, sum_of
from model import GREATEST, SIGNS, counted_sum, sealed

# Rows of all five sorts and their texts, whole.
WRITTEN = (
    (("put", 0, 0, False, "a", 0, "0"), "put 0 0 0 a 0 0 6353;"),
    (("put", 12, 11, True, "abc", 4, "w0rd"), "put 12 11 1 abc 4 w0rd 18308;"),
    (("cut", 3, "a", 0), "cut 3 a 0 2943;"),
    (("hold", 5, "h"), "hold 5 h 2872;"),
    (("free", 6, "h"), "free 6 h 2865;"),
    (("carry", 7, 0, "z9"), "carry 7 0 z9 5723;"),
)

# Every part at one end, or the other, of what it may be.
EDGES = (
    ("put", GREATEST, GREATEST, True, "zzzzzz", GREATEST, "z" * 20),
    ("put", 0, GREATEST, False, "a", 0, "9" * 20),
    ("put", 5, 900, True, "put", 0, "put"),
    ("cut", 0, "cut", 0),
    ("cut", GREATEST, "abcdef", GREATEST),
    ("hold", 0, "a"),
    ("hold", GREATEST, "hold"),
    ("free", 0, "z"),
    ("free", GREATEST, "zzzzzz"),
    ("carry", 0, 0, "0"),
    ("carry", 0, GREATEST, "a"),
    ("carry", GREATEST, 0, "abcdefghijklmnopqrst"),
    ("carry", 10 ** 17, 10 ** 17, "uvwxyz0123456789"),
)


class SumTest(unittest.TestCase):

    def test_each_sign_counts_by_its_place(self):
        self.assertEqual(sum_of(""), 0)
        self.assertEqual(sum_of("a"), 97)
        self.assertEqual(sum_of("ab"), 97 + 2 * 98)
        self.assertEqual(sum_of("ba"), 98 + 2 * 97)
        self.assertEqual(sum_of("cut 3 a 0 "), 2943)
        self.assertEqual(sum_of("\t\n ~"), 9 + 20 + 96 + 504)

    def test_around_the_modulus(self):
        self.assertEqual(sum_of("~" * 31), 62496)
        self.assertEqual(sum_of("~" * 32), 66528 - 65521)
        # Thirty-two tildes are 1007 above the modulus: 31 less at place 32, and one less at another.
        self.assertEqual(sum_of("~" * 15 + "}" + "~" * 15 + "_"), 65520)
        self.assertEqual(sum_of("~" * 14 + "}" + "~" * 16 + "_"), 0)
        self.assertEqual(sum_of("~" * 13 + "}" + "~" * 17 + "_"), 1)

    def test_long_texts(self):
        for many in (100, 1500, 3000):
            text = "mark 0 ab~" * (many // 10)
            self.assertEqual(sum_of(text), counted_sum(text))
        self.assertEqual(sum_of("~" * 3000), 63 * 3000 * 3001 % 65521)


class WrittenTest(unittest.TestCase):

    def test_the_texts_of_rows(self):
        for row, text in WRITTEN:
            with self.subTest(row=row):
                self.assertEqual(row_text(row), text)
                self.assertEqual(read_row(text), row)

    def test_a_sum_that_passes_its_modulus(self):
        for number, total in ((1003, 0), (1004, 10), (1012, 65520), (1013, 9), (2300, 1)):
            row = ("carry", number, 123456, "a" * 20)
            text = f"carry {number} 123456 {'a' * 20} {total};"
            self.assertEqual(row_text(row), text)
            self.assertEqual(read_row(text), row)

    def test_parts_at_their_ends(self):
        for row in EDGES:
            with self.subTest(row=row):
                parts = [{True: "1", False: "0"}[part] if isinstance(part, bool) else str(part) for part in row]
                text = sealed("".join(part + " " for part in parts))
                self.assertEqual(row_text(row), text)
                self.assertEqual(read_row(text), row)

    def test_each_length_of_each_part(self):
        for figures in range(1, 19):
            row = ("put", 10 ** figures - 1, 10 ** (figures - 1), True, "a", 10 ** figures - 1, "b")
            self.assertEqual(read_row(row_text(row)), row)
        for letters in range(1, 7):
            row = ("hold", 1, "abcxyz"[:letters])
            self.assertEqual(read_row(row_text(row)), row)
        for signs in range(1, 21):
            row = ("carry", 1, 2, "0a9z5m0a9z5m0a9z5m0a"[:signs])
            self.assertEqual(read_row(row_text(row)), row)

    def test_each_sign_of_names_and_words(self):
        for sign in "abcdefghijklmnopqrstuvwxyz":
            row = ("free", 1, sign)
            self.assertEqual(read_row(row_text(row)), row)
        for sign in "abcdefghijklmnopqrstuvwxyz0123456789":
            row = ("carry", 1, 2, sign)
            self.assertEqual(read_row(row_text(row)), row)

    def test_a_row_may_be_a_list(self):
        for row, text in WRITTEN:
            handed = list(row)
            self.assertEqual(row_text(handed), text)
            self.assertEqual(handed, list(row))

    def test_kinds_of_what_is_read(self):
        for row in [row for row, text in WRITTEN] + list(EDGES):
            told = read_row(row_text(row))
            self.assertIs(type(told), tuple)
            self.assertEqual([type(part) for part in told], [type(part) for part in row])
        self.assertIs(read_row(row_text(("put", 1, 1, True, "a", 1, "1")))[3], True)
        self.assertIs(read_row(row_text(("put", 0, 0, False, "a", 0, "0")))[3], False)

    def test_any_group_and_any_birth(self):
        for row in (("put", 3, 9, True, "a", 0, "w"), ("carry", 3, 3, "w"), ("carry", 3, 8, "w")):
            self.assertEqual(read_row(row_text(row)), row)


class NoRowTest(unittest.TestCase):

    def refused(self, text):
        with self.assertRaises(NoRow) as caught:
            read_row(text)
        self.assertIsInstance(caught.exception, CleanError)
        self.assertIsInstance(caught.exception, ValueError)

    def refused_body(self, body):
        with self.subTest(body=body):
            self.refused(sealed(body))

    def rows_texts(self):
        return [text for row, text in WRITTEN] + [row_text(row) for row in EDGES]

    def test_beginnings_and_endings(self):
        for text in self.rows_texts():
            for many in range(len(text)):
                self.refused(text[:many])
                self.refused(text[many + 1:])

    def test_one_sign_otherwise(self):
        for text in self.rows_texts():
            for at in range(len(text)):
                for sign in SIGNS:
                    if sign != text[at]:
                        self.refused(text[:at] + sign + text[at + 1:])

    def test_one_sign_more_or_less(self):
        for text in self.rows_texts():
            for sign in SIGNS:
                self.refused(sign + text)
                self.refused(text + sign)
            for at in range(len(text)):
                self.refused(text[:at] + text[at + 1:])
                self.refused(text[:at] + text[at] + text[at:])

    def test_texts_one_behind_the_other(self):
        for text in self.rows_texts():
            self.refused(text + text)
            self.refused(text + " " + text)
            self.refused(text + "\n" + text)

    def test_parts_too_long_or_too_short(self):
        for body in (
            "hold 1 abcdefg ", "hold 1  ", "free 1 abcdefg ", "free 1  ", "cut 1 abcdefg 0 ", "cut 1  0 ",
            "put 1 1 1 abcdefg 0 w ", "put 1 1 1  0 w ", "put 1 1 1 a 0 " + "w" * 21 + " ", "put 1 1 1 a 0  ",
            "carry 1 1 " + "w" * 21 + " ", "carry 1 1  ", "hold  a ", "carry  1 w ", "carry 1  w ", "cut  a 0 ",
            "cut 1 a  ", "put  1 1 a 0 w ", "put 1  1 a 0 w ", "put 1 1  a 0 w ", "put 1 1 1 a  w ",
        ):
            self.refused_body(body)

    def test_parts_missing_or_too_many(self):
        for row, text in WRITTEN:
            parts = text.split(" ")[:-1]
            for at in range(len(parts)):
                self.refused_body("".join(part + " " for part in parts[:at] + parts[at + 1:]))
                self.refused_body("".join(part + " " for part in parts[:at] + [parts[at]] + parts[at:]))
            for more in ("0", "a", "", "w0"):
                self.refused_body("".join(part + " " for part in parts + [more]))
        for body in ("", " ", "put ", "cut ", "hold ", "free ", "carry "):
            self.refused_body(body)

    def test_numbers_that_str_does_not_write(self):
        wrong = ("00", "01", "+1", "-1", "-0", "1.0", "1_0", "0x1", "1e3", "one", "True", "\t1", "1\n", "1" * 19,
                 "0" + "1" * 18, "0" * 18, "1" + "0" * 18, "9" * 40, "9" * 5000)
        letters = tuple("1" + sign for sign in SIGNS if sign not in "0123456789 ")
        for number in wrong + letters:
            for body in (
                f"put {number} 1 1 a 0 w ", f"put 1 {number} 1 a 0 w ", f"put 1 1 1 a {number} w ",
                f"cut {number} a 0 ", f"cut 1 a {number} ", f"hold {number} a ", f"free {number} a ",
                f"carry {number} 1 w ", f"carry 1 {number} w ",
            ):
                self.refused_body(body)

    def test_ends_that_are_neither(self):
        for end in ("2", "10", "01", "00", "-1", "True", "False", "a"):
            self.refused_body(f"put 1 1 {end} a 0 w ")

    def test_names_and_words_of_other_signs(self):
        for sign in SIGNS:
            if sign not in "abcdefghijklmnopqrstuvwxyz":
                for name in (sign, "a" + sign, sign + "a"):
                    self.refused_body(f"hold 1 {name} ")
                    self.refused_body(f"free 1 {name} ")
                    self.refused_body(f"cut 1 {name} 0 ")
                    self.refused_body(f"put 1 1 1 {name} 0 w ")
            if sign not in "abcdefghijklmnopqrstuvwxyz0123456789":
                for word in (sign, "a" + sign, sign + "a"):
                    self.refused_body(f"carry 1 1 {word} ")
                    self.refused_body(f"put 1 1 1 a 0 {word} ")

    def test_first_parts_of_no_row(self):
        for first in ("", "Put", "PUT", "puts", "pu", "mark", "clean", "0", "cold"):
            self.refused_body(f"{first} 1 a ")
            self.refused_body(f"{first} 1 a 0 ")
            self.refused_body(f"{first} 1 1 1 a 0 w ")

    def test_parts_of_another_row(self):
        for body in ("put 1 a ", "cut 1 a ", "hold 1 a 0 ", "free 1 1 w ", "carry 1 a 0 ", "cut 1 1 w ",
                     "carry 1 1 1 a 0 w ", "put 1 1 w "):
            self.refused_body(body)

    def test_sums_that_are_not_its_own(self):
        for total in ("2942", "2944", "02943", "002943", "+2943", "-2943", "2943.", "", " 2943", "2943 ", "0",
                      str(2943 + 65521), str(2943 - 65521), "2943;", ";2943", "2_943", "0x2943"):
            self.refused(f"cut 3 a 0 {total};")
        self.refused("cut 3 a 0 2943")
        self.refused("cut 3 a 0 2943,")
        self.refused("cut 3 a 02943;")
        self.refused("carry 1003 123456 aaaaaaaaaaaaaaaaaaaa 00;")
        self.refused("carry 1003 123456 aaaaaaaaaaaaaaaaaaaa 65521;")
        self.refused("carry 1003 123456 aaaaaaaaaaaaaaaaaaaa ;")

    def test_texts_of_nothing(self):
        for text in ("", " ", ";", "0;", "0", "\n", "no row", "put", "None", "x" * 5000):
            self.refused(text)

    def test_what_is_no_text(self):
        text = row_text(("cut", 3, "a", 0))
        for thing in (None, True, False, 0, 3, -1, 10 ** 30, b"", text.encode(), bytearray(text.encode()), [], [text],
                      (), (text,), ("cut", 3, "a", 0), ["cut", 3, "a", 0], list(text), {}, {text: text}, {text},
                      object(), str, read_row, NoRow, iter(text), range(3)):
            with self.subTest(thing=repr(thing)):
                self.refused(thing)

    def test_asked_again_the_same_is_told(self):
        for text in ("cut 3 a 0 2943;",) * 3:
            self.assertEqual(read_row(text), ("cut", 3, "a", 0))
            self.refused("cut 3 a 0 2944;")


if __name__ == "__main__":
    unittest.main()

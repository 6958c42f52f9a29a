"""cleanrows.filestexts: point 12, and of 2 and 3 what speaks of files' texts."""

import random
import unittest

from cleanrows.errors import CleanError, NoFiles
from cleanrows.files import Files
from cleanrows.filestexts import files_text, read_files
from model import (
    GREATEST, NO_TEXTS, SAMPLES, all_due, all_told, files_of, read_text, spoilt_signs, spoilt_words, text_of)

# Tables, what is held with them, and their texts, whole.
WRITTEN = (
    ({}, {}, "0 0"),
    ({"a": [0]}, {}, "1 a 1 0 0"),
    ({"b": [7], "a": [5, 3]}, {}, "2 a 2 5 3 b 1 7 0"),
    ({}, {"h": {}}, "0 1 h 0"),
    ({"b": [2]}, {"z": {"a": [1, 1]}, "h": {}}, "1 b 1 2 2 h 0 z 1 a 2 1 1"),
    ({"ab": [GREATEST], "b": [1], "a": [2]}, {"b": {"ba": [4], "b": [3, 0]}},
     "3 a 1 2 ab 1 999999999999999999 b 1 1 1 b 2 b 2 3 0 ba 1 4"),
)

# Texts that no files are written as, and why.
SPOILT = (
    ("", "no word"),
    (" ", "two empty words"),
    ("0", "nothing told of held names"),
    ("0 0 0", "a word behind the end"),
    ("0 0 ", "a blank behind the end"),
    (" 0 0", "a blank ahead"),
    ("0  0", "a blank too many"),
    ("0 0\n", "a line feed behind"),
    ("0\n0", "a line feed between"),
    ("0\t0", "a tab between"),
    ("00 0", "a nought ahead"),
    ("0 00", "a nought ahead"),
    ("+0 0", "a sign"),
    ("-0 0", "a sign"),
    ("-1 0", "a sign"),
    ("0 -1", "a sign"),
    ("1 0", "no file"),
    ("1 a 1 5", "nothing told of held names"),
    ("1 a 0 0", "a file without a place"),
    ("1 a 2 5 0", "a birth too few"),
    ("1 a 1 5 6 0", "a birth too many"),
    ("1 a 1 05 0", "a nought ahead"),
    ("1 a 01 5 0", "a nought ahead"),
    ("01 a 1 5 0", "a nought ahead"),
    ("1 a 1 +5 0", "a sign"),
    ("1 a 1 -5 0", "a sign"),
    ("1 a 1 5.0 0", "a point"),
    ("1 a 1 5_0 0", "a low line"),
    ("1 a 1 1000000000000000000 0", "nineteen figures"),
    ("1 a 1 0000000000000000005 0", "nineteen figures"),
    ("1000000000000000000 0", "nineteen figures"),
    ("999999999999999999 0", "files that are not there"),
    ("1 a 999999999999999999 5 0", "places that are not there"),
    ("0 999999999999999999", "names that are not there"),
    ("1 abcdefg 1 5 0", "a name too long"),
    ("1  1 5 0", "a name without a letter"),
    ("1 A 1 5 0", "a name with another sign"),
    ("1 a1 1 5 0", "a name with another sign"),
    ("1 a_ 1 5 0", "a name with another sign"),
    ("1 7 1 5 0", "a name with another sign"),
    ("2 b 1 5 a 1 6 0", "names out of order"),
    ("2 ab 1 5 a 1 6 0", "names out of order"),
    ("2 a 1 5 a 1 6 0", "a name twice"),
    ("2 a 1 5 a 1 5 0", "a name twice"),
    ("3 a 1 5 c 1 6 b 1 7 0", "names out of order"),
    ("0 2 h 0 g 0", "held names out of order"),
    ("0 2 h 0 h 0", "a held name twice"),
    ("0 1 h", "nothing told of what is held"),
    ("0 1 abcdefg 0", "a held name too long"),
    ("0 1 H 0", "a held name with another sign"),
    ("0 1 h 0 0", "held in what is held"),
    ("0 1 h 1 a 0", "a held file without a place"),
    ("0 1 h 2 b 1 1 a 1 1", "held files out of order"),
    ("0 1 h 2 a 1 1 a 1 1", "a held file twice"),
    ("0 1 h 1 a 1 01", "a nought ahead"),
    ("0 1 h 1 a 1 1000000000000000000", "nineteen figures"),
    ("0;0", "another sign between"),
    ("a 0", "a name for a number"),
    ("0 0;", "another sign behind"),
    ("none", "no number"),
)


class TextsCase(unittest.TestCase):

    def assert_refused(self, value, why=None):
        with self.assertRaises(CleanError) as caught:
            read_files(value)
        self.assertIs(caught.exception.__class__, NoFiles, (value, why))

    def assert_as_the_model(self, text):
        """Read where the test's own reading does, and refused where it doesn't."""
        due = read_text(text)
        if due is None:
            self.assert_refused(text)
        else:
            self.assertEqual(all_told(read_files(text)), all_due(*due), text)


class WrittenTest(TextsCase):

    def test_word_for_word(self):
        for table, held, text in WRITTEN:
            with self.subTest(text=text):
                files = files_of(table, held)
                self.assertEqual(files_text(files), text)
                self.assertEqual(all_told(read_files(text)), all_due(table, held))

    def test_the_samples(self):
        for table, held in SAMPLES:
            files = files_of(table, held)
            text = files_text(files)
            self.assertEqual(text, text_of(table, held))
            self.assertEqual(all_told(files), all_due(table, held))
            self.assertEqual(all_told(read_files(text)), all_due(table, held))

    def test_in_long_rows_of_deeds(self):
        chance = random.Random(12)
        files = Files()
        for turn in range(300):
            name = chance.choice(("a", "b", "ba", "c", "zzzzzz"))
            many = files.many(name)
            if chance.random() < 0.6:
                files.put(name, chance.randint(0, many), chance.choice((0, turn, 10 ** 17 + turn, GREATEST)))
            elif many:
                files.cut(name, chance.randint(0, many))
            elif name in files.held():
                files.free(name)
            elif len(files.held()) < 4:
                files.hold(name)
            text = files_text(files)
            self.assertEqual(files_text(read_files(text)), text)
            self.assertEqual(all_told(read_files(text)), all_told(files))
            self.assertEqual(all_due(*read_text(text)), all_told(files))

    def test_what_was_read_goes_on_by_itself(self):
        text = "1 a 2 5 6 1 h 1 a 1 5"
        first, second = read_files(text), read_files(text)
        self.assertIsInstance(first, Files)
        first.put("a", 2, 7)
        first.free("h")
        first.hold("h")
        first.put("a", 0, 8)
        self.assertEqual(files_text(first), "1 a 3 8 6 7 1 h 1 a 3 5 6 7")
        self.assertEqual(files_text(second), text)
        self.assertEqual(files_text(read_files(text)), text)
        held = second.of_held("h")
        held.put("a", 0, 1)
        self.assertEqual(files_text(second), text)

    def test_writing_changes_nothing(self):
        for table, held in SAMPLES:
            files = files_of(table, held)
            files_text(files)
            self.assertEqual(all_told(files), all_due(table, held))


class LimitsTest(TextsCase):

    def test_files_of_two_hundred_places(self):
        births = [place * 7 for place in range(200)]
        files = files_of({"abcdef": births}, {})
        text = files_text(files)
        self.assertEqual(text, "1 abcdef 200 " + " ".join(map(str, births)) + " 0")
        self.assertEqual(all_told(read_files(text)), all_due({"abcdef": births}, {}))

    def test_texts_of_three_thousand_signs(self):
        table = {"a": [GREATEST - place for place in range(78)], "b": [10 ** 17]}
        held = {name: {"a": [GREATEST - place for place in range(19)]} for name in ("c", "d", "e", "f")}
        text = files_text(files_of(table, held))
        self.assertTrue(2950 < len(text) <= 3000, len(text))
        self.assertEqual(text, text_of(table, held))
        self.assertEqual(all_told(read_files(text)), all_due(table, held))
        self.assert_refused(text + " ")
        self.assert_refused(text[:-19])
        for start in ("1 a 1500 ", "1 a 1495 ", "1500 "):
            self.assert_refused(start + "0 " * 1490 + "0")

    def test_many_small_births(self):
        table = {"a": [0] * 1400}
        self.assertEqual(all_told(read_files(text_of(table, {}))), all_due(table, {}))


class SpoiltTest(TextsCase):

    def test_spoilt_texts(self):
        for text, why in SPOILT:
            self.assertIsNone(read_text(text), text)
            self.assert_refused(text, why)

    def test_beginnings(self):
        for table, held in SAMPLES:
            text = text_of(table, held)
            for many in range(len(text)):
                self.assert_as_the_model(text[:many])

    def test_words_left_out_told_twice_exchanged(self):
        refused = 0
        for table, held in SAMPLES:
            for text in spoilt_words(text_of(table, held)):
                refused += read_text(text) is None
                self.assert_as_the_model(text)
        self.assertGreater(refused, 5000)

    def test_signs_taken_out_put_in_exchanged(self):
        for table, held in SAMPLES[:7]:
            for text in spoilt_signs(text_of(table, held)):
                self.assert_as_the_model(text)

    def test_figures_of_other_writings(self):
        for figure in ("\u0665", "\u00b2", "\uff15"):
            self.assert_refused(f"1 a 1 {figure} 0")
            self.assert_refused(f"1 a {figure} 5 0")

    def test_what_is_no_text(self):
        for value in NO_TEXTS:
            self.assert_refused(value)


if __name__ == "__main__":
    unittest.main()

"""cleanrows.marks: point 14, and of 2 and 3 what speaks of marks."""

import random
import unittest

from cleanrows.errors import CleanError, NoMark
from cleanrows.files import Files
from cleanrows.marks import mark_text, read_mark
from cleanrows.states import State, first_state
from model import (
    GREATEST, NO_TEXTS, SAMPLES, SIGNS, all_due, all_told, counted_sum, files_of, is_sound, mark_body, parsed, sealed,
    spoilt_signs, spoilt_words, told_of)

# States, in parts, and their marks, whole: table, held, spots, next, mark.
WRITTEN = (
    (({}, {}, [], 0, 0), "mark 0 0 0 0 0 5393;"),
    (({}, {}, [], 12, 7), "mark 7 12 0 0 0 6165;"),
    (({"a": [0]}, {}, [(0, 0, 0)], 1, 1), "mark 1 1 1 a 1 0 0 1 0 0 0 16311;"),
    (({"b": [5], "a": [3, 4]}, {"h": {"b": [2]}}, [(2, 0, 2), (3, 1, 0), (4, 1, 1), (5, 2, 31)], 6, 10),
     "mark 10 6 2 a 2 3 4 b 1 5 1 h 1 b 1 2 4 2 0 2 3 1 0 4 1 1 5 2 31 28259;"),
    (({"zzzzzz": [GREATEST - 1]}, {}, [(GREATEST - 1, 15, 31)], GREATEST, GREATEST),
     "mark 999999999999999999 999999999999999999 1 zzzzzz 1 999999999999999998 0 1 999999999999999998 15 31 33337;"),
)

# Bodies of which no mark is, though their sums are right, and why.
SPOILT = (
    ("", "no word"),
    (" ", "an empty word"),
    ("mark ", "no number"),
    ("mark 0 ", "no next"),
    ("mark 0 0 ", "no files"),
    ("mark 0 0 0 ", "nothing of held names"),
    ("mark 0 0 0 0 ", "nothing of births"),
    ("mark 0 0 0 0 0", "no blank behind the last"),
    ("mark 0 0 0 0 0  ", "a blank too many"),
    ("mark  0 0 0 0 0 ", "a blank too many"),
    (" mark 0 0 0 0 0 ", "a blank ahead"),
    ("mark 0 0 0 0 0 0 ", "a word too many"),
    ("mark 0 0 0 0 0 ; ", "a sign too many"),
    ("mark 0 0 0 0 0\n", "a line feed"),
    ("mark\t0 0 0 0 0 ", "a tab"),
    ("Mark 0 0 0 0 0 ", "another word"),
    ("marks 0 0 0 0 0 ", "another word"),
    ("put 0 0 0 0 0 ", "another word"),
    ("0 0 0 0 0 ", "no word mark"),
    ("mark 00 0 0 0 0 ", "a nought ahead"),
    ("mark 0 00 0 0 0 ", "a nought ahead"),
    ("mark 0 0 00 0 0 ", "a nought ahead"),
    ("mark 0 0 0 00 0 ", "a nought ahead"),
    ("mark 0 0 0 0 00 ", "a nought ahead"),
    ("mark -1 0 0 0 0 ", "a sign"),
    ("mark +1 0 0 0 0 ", "a sign"),
    ("mark 0 -1 0 0 0 ", "a sign"),
    ("mark 1000000000000000000 0 0 0 0 ", "nineteen figures"),
    ("mark 0 1000000000000000000 0 0 0 ", "nineteen figures"),
    ("mark 0 0 0 0 1000000000000000000 ", "nineteen figures"),
    ("mark 0 0 0 0 999999999999999999 ", "births that are not there"),
    ("mark 0 0 0 0 1 5 0 0 ", "a birth that does not live"),
    ("mark 0 9 1 a 1 5 0 0 ", "a living birth without a spot"),
    ("mark 0 9 1 a 1 5 0 1 6 0 0 ", "another birth"),
    ("mark 0 9 1 a 1 5 0 1 5 0 ", "no place"),
    ("mark 0 9 1 a 1 5 0 1 5 ", "no stretch"),
    ("mark 0 9 1 a 1 5 0 1 5 0 0 0 ", "a number too many"),
    ("mark 0 9 1 a 1 5 0 2 5 0 0 ", "fewer than told"),
    ("mark 0 9 1 a 1 5 0 2 5 0 0 6 0 1 ", "a birth that does not live"),
    ("mark 0 9 1 a 1 5 0 2 5 0 0 5 0 0 ", "a birth twice"),
    ("mark 0 9 1 a 2 5 5 0 2 5 0 0 5 0 0 ", "a birth twice"),
    ("mark 0 9 1 a 2 5 6 0 2 6 0 1 5 0 0 ", "births out of order"),
    ("mark 0 9 1 a 2 5 6 0 1 5 0 0 ", "a living birth without a spot"),
    ("mark 0 9 1 a 1 6 1 h 1 a 1 5 1 6 0 0 ", "a held birth without a spot"),
    ("mark 0 9 1 a 1 5 0 1 05 0 0 ", "a nought ahead"),
    ("mark 0 9 1 a 1 5 0 1 5 00 0 ", "a nought ahead"),
    ("mark 0 9 1 a 1 5 0 1 5 0 00 ", "a nought ahead"),
    ("mark 0 9 1 a 1 5 0 01 5 0 0 ", "a nought ahead"),
    ("mark 0 9 1 a 1 5 0 1 5 -1 0 ", "a sign"),
    ("mark 0 9 1 a 1 5 0 1 5 0 -1 ", "a sign"),
    ("mark 0 9 1 a 1 5 0 1 5 0 1000000000000000000 ", "nineteen figures"),
    ("mark 0 9 1 a 1 5 0 1 5 1000000000000000000 0 ", "nineteen figures"),
    ("mark 0 9 1 a 1 1000000000000000000 0 1 1000000000000000000 0 0 ", "nineteen figures"),
    ("mark 0 9 1 a 0 0 0 ", "a file without a place"),
    ("mark 0 9 2 b 1 5 a 1 5 0 1 5 0 0 ", "names out of order"),
    ("mark 0 9 2 a 1 5 a 1 5 0 1 5 0 0 ", "a name twice"),
    ("mark 0 9 1 abcdefg 1 5 0 1 5 0 0 ", "a name too long"),
    ("mark 0 9 0 2 h 0 g 0 0 ", "held names out of order"),
    ("mark 0 9 0 2 h 0 h 0 0 ", "a held name twice"),
)


def state_of(table, held, spots, next_number, mark_number):
    return State(files_of(table, held), spots, next_number, mark_number)


def due_of(table, held, spots, next_number, mark_number):
    """What is due to be told of the state that is read from such a mark."""
    return all_due(table, held), sorted(spots), next_number, mark_number + 1


def read_body(body):
    """The parts of the state whose mark has this body; None where there is none."""
    words = body.split(" ")
    try:
        words.pop(0)
        mark_number, next_number = int(words.pop(0)), int(words.pop(0))
        table, held = parsed(words)
        spots = [tuple(int(words.pop(0)) for part in range(3)) for turn in range(int(words.pop(0)))]
    except (ValueError, IndexError):
        return None
    numbers = [mark_number, next_number] + [number for spot in spots for number in spot]
    is_bounded = is_sound(table, held) and all(0 <= number <= GREATEST for number in numbers)
    births = [birth for birth, stretch, place in spots]
    parts = table, held, spots, next_number, mark_number
    if is_bounded and births == all_due(table, held)[2] and mark_body(*parts) == body:
        return parts
    return None


def with_spots(table, held, next_number, mark_number):
    births = all_due(table, held)[2]
    spots = [(birth, at % 16, 31 - at // 16) for at, birth in enumerate(births)]
    return table, held, spots, next_number, mark_number


MANY = [with_spots(table, held, GREATEST, at) for at, (table, held) in enumerate(SAMPLES)]


class MarksCase(unittest.TestCase):

    def assert_refused(self, value, why=None):
        with self.assertRaises(CleanError) as caught:
            read_mark(value)
        self.assertIs(caught.exception.__class__, NoMark, (value, why))

    def assert_as_the_model(self, body):
        """Sealed by the right sum: read where the test's own reading does, and refused where it doesn't."""
        due = read_body(body)
        if due is None:
            self.assert_refused(sealed(body))
        else:
            self.assertEqual(told_of(read_mark(sealed(body))), due_of(*due), body)


class WrittenTest(MarksCase):

    def test_word_for_word(self):
        for parts, text in WRITTEN:
            with self.subTest(text=text):
                self.assertEqual(mark_text(state_of(*parts)), text)
                self.assertEqual(told_of(read_mark(text)), due_of(*parts))

    def test_the_first_state(self):
        self.assertEqual(mark_text(first_state()), "mark 0 0 0 0 0 5393;")
        self.assertEqual(told_of(read_mark("mark 0 0 0 0 0 5393;")), due_of({}, {}, [], 0, 0))

    def test_the_samples(self):
        for parts in MANY:
            text = mark_text(state_of(*parts))
            self.assertEqual(text, sealed(mark_body(*parts)))
            state = read_mark(text)
            self.assertIsInstance(state, State)
            self.assertEqual(told_of(state), due_of(*parts))
            for birth, stretch, place in parts[2]:
                self.assertEqual(state.spot(birth), (stretch, place))

    def test_spots_handed_in_in_another_order(self):
        for table, held, spots, next_number, mark_number in MANY:
            text = mark_text(state_of(table, held, spots, next_number, mark_number))
            mixed = [list(spot) for spot in reversed(spots)]
            self.assertEqual(mark_text(state_of(table, held, tuple(mixed), next_number, mark_number)), text)

    def test_marks_that_follow(self):
        state = state_of(*MANY[6])
        for number in range(6, 40):
            text = mark_text(state)
            self.assertTrue(text.startswith(f"mark {number} {GREATEST} 2 a "))
            state = read_mark(text)
            self.assertEqual(state.mark_number(), number + 1)

    def test_writing_and_reading_change_nothing(self):
        for parts in MANY:
            state = state_of(*parts)
            text = mark_text(state)
            ahead = told_of(state)
            read_mark(text)
            self.assertEqual(mark_text(state), text)
            self.assertEqual(told_of(state), ahead)

    def test_what_was_read_is_its_askers_own(self):
        text = mark_text(state_of(*MANY[6]))
        first, second = read_mark(text), read_mark(text)
        first.files().cut("b", 0)
        first.spots().clear()
        for state in (first, second, read_mark(text)):
            self.assertEqual(told_of(state), due_of(*MANY[6]))

    def test_next_and_births_stand_for_themselves(self):
        # Of a state whose next is not above its births nothing is promised on a disk, yet its mark is its mark.
        parts = {"a": [5]}, {}, [(5, 1, 2)], 0, 0
        self.assertEqual(told_of(read_mark(mark_text(state_of(*parts)))), due_of(*parts))

    def test_made_by_deeds(self):
        chance = random.Random(14)
        files = Files()
        for turn in range(200):
            name = chance.choice(("a", "b", "ba"))
            many = files.many(name)
            if chance.random() < 0.6:
                files.put(name, chance.randint(0, many), turn)
            elif many:
                files.cut(name, chance.randint(0, many))
            elif name in files.held():
                files.free(name)
            else:
                files.hold(name)
            spots = [(birth, chance.randrange(16), chance.randrange(32)) for birth in files.living()]
            chance.shuffle(spots)
            state = State(files, spots, turn + 1, turn // 3)
            told = read_mark(mark_text(state))
            self.assertEqual(told_of(told), (all_told(files), sorted(spots), turn + 1, turn // 3 + 1))

    def test_marks_of_three_thousand_signs(self):
        table = {"abcdef": list(range(100, 300))}
        held = {name: {"abcdef": list(range(120, 140))} for name in ("x", "y", "zzzzzz")}
        parts = with_spots(table, held, 300, 12)
        text = mark_text(state_of(*parts))
        self.assertTrue(2900 < len(text) <= 3000, len(text))
        self.assertEqual(text, sealed(mark_body(*parts)))
        self.assertEqual(told_of(read_mark(text)), due_of(*parts))
        for many in range(0, len(text), 7):
            self.assert_refused(text[:many])
        # One sign otherwise is always found, wherever it stands.
        for at in range(0, len(text), 11):
            for sign in "0 a9~":
                if text[at] != sign:
                    self.assert_refused(text[:at] + sign + text[at + 1:])


class SpoiltTest(MarksCase):

    def test_spoilt_bodies_with_right_sums(self):
        for body, why in SPOILT:
            self.assertIsNone(read_body(body), body)
            self.assert_refused(sealed(body), why)

    def test_spoilt_sums(self):
        for parts in MANY:
            body = mark_body(*parts)
            total = counted_sum(body)
            for end in ("", ";", str(total), f"0{total};", f"+{total};", f"-{total};", f" {total};", f"{total} ;",
                        f"{total};;", f"{total};\n", f"{total}; ", f"{total + 1};", f"{total - 1};",
                        f"{total + 65521};", f"{total - 65521};", f"{total},", f"{total}.0;"):
                self.assert_refused(body + end)
        self.assert_refused("0;")
        self.assert_refused("mark 0 0 0 0 0 5393;mark 0 0 0 0 0 5393;")
        self.assert_refused("mark 0 0 0 0 0 5393; ")

    def test_beginnings(self):
        for parts in MANY:
            text = sealed(mark_body(*parts))
            for many in range(len(text)):
                self.assert_refused(text[:many])

    def test_signs_taken_out_put_in_exchanged(self):
        for parts in MANY:
            body = mark_body(*parts)
            whole = sealed(body)
            for text in spoilt_signs(whole, SIGNS if len(whole) < 40 else "0 9a;\n"):
                self.assert_refused(text)

    def test_signs_with_the_sum_made_right_again(self):
        for parts in MANY[:3] + MANY[4:6]:
            for body in spoilt_signs(mark_body(*parts)):
                self.assert_as_the_model(body)

    def test_words_with_the_sum_made_right_again(self):
        refused = 0
        for parts in MANY:
            for body in spoilt_words(mark_body(*parts)):
                refused += read_body(body) is None
                self.assert_as_the_model(body)
        self.assertGreater(refused, 10000)

    def test_words_with_the_old_sum(self):
        whole = sealed(mark_body(*MANY[6]))
        for text in spoilt_words(whole):
            if text != whole:
                self.assert_refused(text)

    def test_what_is_no_text(self):
        for value in NO_TEXTS:
            self.assert_refused(value)

    def test_other_texts(self):
        for text in ("", "mark", "cut 3 a 0 2943;", "hold 5 h 2872;", "0 0", sealed("0 0 "), sealed("mark 0 0 0 0 0"),
                     sealed("mark")):
            self.assert_refused(text)


if __name__ == "__main__":
    unittest.main()

"""cleanrows.ends: point 15, and of 2 and 3 what speaks of whole rows and ends."""

import random
import unittest

from cleanrows.disks import Disk
from cleanrows.ends import empties, end_of, next_stretch, whole_rows
from cleanrows.errors import CleanError, NoRoom, Stopped
from model import GREATEST, NAMES, WORDS, disk_of, row_text_of, seen, stopped_in

KINDS = (
    ("put", 7, 5, False, "put", 0, "cut"), ("cut", 0, "mark", 3), ("hold", 12, "free"), ("free", 3, "hold"),
    ("carry", 9, 7, "carry"),
)


def hot(number):
    return ("cut", number, "a", 0)


def cold(number):
    return ("carry", number, 0, "w")


def figures(many):
    """A number of so many figures."""
    return int("1234567890123456789"[:many])


def some_row(chance, number):
    other, name, word = figures(chance.randint(1, 18)), chance.choice(NAMES), chance.choice(WORDS)
    return chance.choice((
        ("put", number, other, chance.random() < 0.5, name, chance.randrange(60), word), ("cut", number, name, other),
        ("hold", number, name), ("free", number, name), ("carry", number, other, word)))


class EndsCase(unittest.TestCase):

    def assert_rows(self, disk, due):
        told = whole_rows(disk)
        self.assertIsInstance(told, list)
        self.assertEqual(told, due)
        for one, (row, stretch, place) in zip(told, due):
            self.assertIsInstance(one, tuple)
            self.assertEqual([part.__class__ for part in one], [tuple, int, int])
            self.assertEqual([part.__class__ for part in one[0]], [part.__class__ for part in row])

    def assert_no_room(self, disk, is_hot):
        with self.assertRaises(CleanError) as caught:
            next_stretch(disk, is_hot)
        self.assertIs(caught.exception.__class__, NoRoom)


class WholeRowsTest(EndsCase):

    def test_none(self):
        self.assert_rows(Disk(3, 2), [])
        self.assert_rows(Disk(16, 32), [])

    def test_one_of_each_kind(self):
        for row in KINDS:
            self.assert_rows(disk_of(3, 2, [[], [row]]), [(row, 1, 0)])

    def test_kinds_together_by_their_numbers(self):
        disk = disk_of(4, 3, [KINDS[:2], [], [KINDS[3], KINDS[2]], [KINDS[4]]])
        due = [(KINDS[1], 0, 1), (KINDS[3], 2, 0), (KINDS[0], 0, 0), (KINDS[4], 3, 0), (KINDS[2], 2, 1)]
        self.assert_rows(disk, due)

    def test_an_end_stays_true_or_false(self):
        rows = [("put", at, 1, end, "a", 1, "1") for at, end in enumerate((True, False, True, False))]
        told = whole_rows(disk_of(3, 2, [rows[:2], rows[2:]]))
        self.assertEqual([one[0][3] for one in told], [True, False, True, False])
        for one in told:
            self.assertIsInstance(one[0][3], bool)
            self.assertNotIsInstance(one[0][1], bool)

    def test_numbers_of_one_to_eighteen_figures(self):
        numbers = [figures(many) for many in range(1, 19)] + [0, 10 ** 17, GREATEST]
        rows = [some_row(random.Random(number), number) for number in numbers]
        for seed in range(20):
            mixed = random.Random(seed).sample(rows, len(rows))
            texts = [mixed[:7], mixed[7:14], mixed[14:]]
            due = [(row, stretch, place) for stretch, part in enumerate(texts) for place, row in enumerate(part)]
            self.assert_rows(disk_of(3, 7, texts), sorted(due, key=lambda one: one[0][1]))

    def test_all_that_is_no_row_is_passed_over(self):
        rows = [some_row(random.Random(number), number) for number in (4, 2, 9)]
        texts = [row_text_of(row) for row in rows]
        spoilt = [texts[0][:-1], texts[1][1:], texts[2] + ";", texts[0].replace("4", "5"), "mark 0 0 0 0 0 5393;", "x"]
        parts = [[spoilt[0], texts[0], spoilt[1]], [spoilt[2], spoilt[3], texts[1]], [*spoilt[4:], texts[2]]]
        disk = disk_of(3, 4, parts)
        self.assert_rows(disk, [(rows[1], 1, 2), (rows[0], 0, 1), (rows[2], 2, 2)])

    def test_beginnings_of_rows(self):
        first, last = hot(1), cold(2)
        for row in KINDS:
            for many in range(1, len(row_text_of(row))):
                disk = stopped_in(disk_of(3, 3, [[first]]), many, "write", 0, row_text_of(row))
                self.assertEqual(disk.next_place(0), 2)
                self.assert_rows(disk, [(first, 0, 0)])
                disk.write(0, row_text_of(last))
                self.assert_rows(disk, [(first, 0, 0), (last, 0, 2)])

    def test_no_sign_of_a_row(self):
        disk = stopped_in(disk_of(3, 3, [[hot(1)]]), 0, "write", 0, row_text_of(hot(2)))
        self.assert_rows(disk, [(hot(1), 0, 0)])
        disk.write(0, row_text_of(hot(3)))
        self.assert_rows(disk, [(hot(1), 0, 0), (hot(3), 0, 1)])

    def test_emptied_stretches(self):
        disk = disk_of(3, 2, [[hot(0), hot(1)], [cold(2)], [hot(3)]])
        disk.empty(0)
        self.assert_rows(disk, [(cold(2), 1, 0), (hot(3), 2, 0)])
        disk.write(0, row_text_of(hot(4)))
        self.assert_rows(disk, [(cold(2), 1, 0), (hot(3), 2, 0), (hot(4), 0, 0)])
        for stretch in range(3):
            disk.empty(stretch)
        self.assert_rows(disk, [])

    def test_stretches_emptied_in_part(self):
        rows = [hot(5), hot(6), cold(1), hot(8)]
        for many in range(4):
            disk = stopped_in(disk_of(3, 5, [[hot(7)], rows]), many, "empty", 1)
            due = [(row, 1, place) for place, row in enumerate(rows) if place >= many] + [(hot(7), 0, 0)]
            self.assert_rows(disk, sorted(due, key=lambda one: one[0][1]))
            self.assertEqual(disk.next_place(1), 4)
            disk.write(1, row_text_of(hot(2)))
            due.append((hot(2), 1, 4))
            self.assert_rows(disk, sorted(due, key=lambda one: one[0][1]))
            disk.empty(1)
            self.assert_rows(disk, [(hot(7), 0, 0)])

    def test_two_hundred_texts(self):
        rows = [some_row(random.Random(number), number) for number in range(GREATEST - 200, GREATEST)]
        mixed = random.Random(3).sample(rows, 200)
        texts = [mixed[at:at + 32] for at in range(0, 200, 32)]
        due = [(row, stretch, place) for stretch, part in enumerate(texts) for place, row in enumerate(part)]
        self.assert_rows(disk_of(16, 32, texts), sorted(due, key=lambda one: one[0][1]))


class EndsTest(EndsCase):

    def test_none(self):
        for disk in (Disk(3, 2), Disk(16, 32), disk_of(3, 2, [["x"], ["put 0 0 1 a 0 "]])):
            self.assertIsNone(end_of(disk, True))
            self.assertIsNone(end_of(disk, False))

    def test_one_of_both(self):
        for row in KINDS:
            disk = disk_of(3, 2, [["x"], [row]])
            self.assertEqual(end_of(disk, True), None if row[0] == "carry" else 1)
            self.assertEqual(end_of(disk, False), 1 if row[0] == "carry" else None)

    def test_the_greatest_number_and_not_the_last_place(self):
        disk = disk_of(5, 2, [[hot(9), hot(2)], [hot(10)], [cold(100)], [cold(11), cold(99)], [hot(8)]])
        self.assertEqual((end_of(disk, True), end_of(disk, False)), (1, 2))
        disk.empty(1)
        disk.empty(2)
        self.assertEqual((end_of(disk, True), end_of(disk, False)), (0, 3))
        disk.empty(0)
        disk.empty(3)
        self.assertEqual((end_of(disk, True), end_of(disk, False)), (4, None))

    def test_numbers_are_compared_as_numbers(self):
        disk = disk_of(4, 2, [[hot(99)], [hot(100)], [cold(GREATEST - 1)], [cold(GREATEST)]])
        self.assertEqual((end_of(disk, True), end_of(disk, False)), (1, 3))

    def test_a_beginning_of_a_row_is_no_end(self):
        disk = disk_of(3, 2, [[hot(1)], [cold(0)]])
        for row in (hot(2), cold(2)):
            torn = stopped_in(disk, 5, "write", 2, row_text_of(row))
            self.assertEqual((end_of(torn, True), end_of(torn, False)), (0, 1))

    def test_each_hot_kind(self):
        for row in KINDS[:4]:
            lesser = ("cut", row[1] - 1, "a", 0) if row[1] else ("carry", 8, 0, "w")
            disk = disk_of(3, 2, [[lesser], [row]])
            self.assertEqual(end_of(disk, True), 1)

    def test_empties(self):
        disk = disk_of(5, 2, [[], ["x"], [], [hot(1), cold(0)], []])
        self.assertEqual(empties(disk), [0, 2, 4])
        disk.write(2, "y")
        self.assertEqual(empties(disk), [0, 4])
        disk.empty(1)
        self.assertEqual(empties(disk), [0, 1, 4])
        self.assertEqual(empties(Disk(16, 32)), list(range(16)))
        full = disk_of(3, 2, [["x"], ["x"], ["x"]])
        self.assertEqual(empties(full), [])
        self.assertIsInstance(empties(full), list)

    def test_a_stretch_emptied_in_part_is_not_empty(self):
        disk = disk_of(3, 3, [["x", "y", "z"]])
        for many in range(3):
            self.assertEqual(empties(stopped_in(disk, many, "empty", 0)), [1, 2])

    def test_a_write_without_a_sign_leaves_it_empty(self):
        self.assertEqual(empties(stopped_in(Disk(3, 2), 0, "write", 1, "x")), [0, 1, 2])
        self.assertEqual(empties(stopped_in(Disk(3, 2), 1, "write", 1, "xy")), [0, 2])


class NextTest(EndsCase):

    def test_on_a_blank_disk(self):
        for is_hot in (True, False):
            self.assertEqual(next_stretch(Disk(3, 2), is_hot), 0)
            self.assertEqual(next_stretch(disk_of(4, 2, [["x"], ["y"]]), is_hot), 2)

    def test_in_its_stretch_while_a_place_is_free(self):
        disk = disk_of(4, 3, [[], [hot(3)], [cold(2)]])
        for place in (1, 2):
            self.assertEqual((next_stretch(disk, True), next_stretch(disk, False)), (1, 2))
            disk.write(1, "torn")
            disk.write(2, "torn")
        self.assertEqual((next_stretch(disk, True), next_stretch(disk, False)), (0, 0))

    def test_the_empty_stretch_of_the_least_number(self):
        disk = disk_of(5, 2, [["x"], [], [hot(1), hot(2)], [], ["y"]])
        self.assertEqual((next_stretch(disk, True), next_stretch(disk, False)), (1, 1))
        disk.write(1, "z")
        self.assertEqual((next_stretch(disk, True), next_stretch(disk, False)), (3, 3))
        disk.empty(0)
        self.assertEqual((next_stretch(disk, True), next_stretch(disk, False)), (0, 0))

    def test_no_room(self):
        disk = disk_of(3, 2, [[hot(0), hot(1)], [cold(2)], ["x"]])
        self.assert_no_room(disk, True)
        self.assertEqual(next_stretch(disk, False), 1)
        disk.write(1, row_text_of(cold(3)))
        self.assert_no_room(disk, True)
        self.assert_no_room(disk, False)
        self.assertEqual((end_of(disk, True), end_of(disk, False)), (0, 1))
        # A free place in a stretch that is no end is of no use.
        self.assertEqual(disk.next_place(2), 1)
        for is_hot in (True, False):
            self.assert_no_room(disk_of(3, 2, [["x"], ["y"], ["z"]]), is_hot)

    def test_an_end_emptied_in_part_goes_on_behind(self):
        disk = stopped_in(disk_of(3, 4, [[hot(0), hot(1), hot(2)]]), 2, "empty", 0)
        self.assertEqual(next_stretch(disk, True), 0)
        self.assertEqual(disk.write(0, row_text_of(hot(3))), 3)
        self.assertEqual(next_stretch(disk, True), 1)

    def test_one_after_another_until_there_is_no_room(self):
        for seed in range(40):
            chance = random.Random(seed)
            disk = Disk(chance.randint(3, 16), chance.randint(2, 5))
            kinds, number = {}, 0
            # What each end is due to be, as the test remembers it.
            last = {True: None, False: None}
            while True:
                is_hot = chance.random() < 0.7
                due = last[is_hot]
                if due is None or disk.next_place(due) == disk.places():
                    due = min((one for one in range(disk.stretches()) if disk.next_place(one) == 0), default=None)
                if due is None:
                    self.assert_no_room(disk, is_hot)
                    break
                self.assertEqual(next_stretch(disk, is_hot), due)
                text = row_text_of(hot(number) if is_hot else cold(number))
                if chance.random() < 0.2:
                    disk.write(due, text[:chance.randint(1, len(text) - 1)])
                else:
                    disk.write(due, text)
                    kinds.setdefault(due, set()).add(is_hot)
                    last[is_hot] = due
                    number += 1
                self.assertEqual((end_of(disk, True), end_of(disk, False)), (last[True], last[False]))
            self.assertEqual([stretch for stretch in kinds if len(kinds[stretch]) > 1], [])


class AskedTest(EndsCase):

    def all_asked(self, disk):
        told = [whole_rows(disk), end_of(disk, True), end_of(disk, False), empties(disk)]
        for is_hot in (True, False):
            try:
                told.append(next_stretch(disk, is_hot))
            except NoRoom:
                told.append("none")
        return told

    def test_asking_changes_nothing(self):
        for texts in ([], [[hot(1)], [cold(0), "x"]], [[hot(0), hot(1)], [cold(2), cold(4)], ["x"]]):
            disk = disk_of(3, 2, texts, ["side", None])
            ahead = seen(disk)
            told = self.all_asked(disk)
            self.assertEqual(self.all_asked(disk), told)
            self.assertEqual(self.all_asked(disk.copied()), told)
            self.assertEqual(seen(disk), ahead)

    def test_what_is_told_is_its_askers_own(self):
        disk = disk_of(3, 2, [[hot(1)], [cold(0)]])
        told = self.all_asked(disk)
        whole_rows(disk).clear()
        whole_rows(disk).reverse()
        empties(disk).append(0)
        self.assertEqual(self.all_asked(disk), told)

    def test_what_was_told_stays_behind_later_deeds(self):
        disk = disk_of(3, 2, [[hot(1)], [cold(0)]])
        rows, empty = whole_rows(disk), empties(disk)
        disk.empty(0)
        disk.write(2, row_text_of(hot(2)))
        self.assertEqual(rows, [(cold(0), 1, 0), (hot(1), 0, 0)])
        self.assertEqual(empty, [2])

    def test_a_disk_that_has_stopped_tells_all(self):
        disk = disk_of(3, 2, [[hot(1), hot(2)], [cold(0)]])
        told = self.all_asked(disk)
        disk.stop(0)
        self.assertEqual(self.all_asked(disk), told)
        with self.assertRaises(Stopped):
            disk.write(2, "x")
        self.assertEqual(self.all_asked(disk), told)
        self.assertEqual(self.all_asked(disk.copied()), told)


if __name__ == "__main__":
    unittest.main()

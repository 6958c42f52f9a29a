"""cleanrows.disks: points 7, 8 and 9, and of 2 and 3 what speaks of disks."""

import unittest

from cleanrows.disks import Disk
from cleanrows.errors import CleanError, Full, NoDisk, Stopped
from model import seen


def full_disk(stretches, places):
    """A disk that is full; each text is its stretch and its place."""
    disk = Disk(stretches, places)
    for stretch in range(stretches):
        for place in range(places):
            disk.write(stretch, f"{stretch}.{place}")
    return disk


class SignBySign:
    """What a disk of three stretches of three places holds, done a sign at a time and not deed by deed."""

    def __init__(self):
        self.following = [0, 0, 0]
        self.texts = [[None] * 3 for stretch in range(3)]
        self.sides = [None, None]
        self.signs = 0

    def seen(self):
        return (list(self.following), [list(texts) for texts in self.texts], list(self.sides), self.signs)

    def do(self, deed, left):
        """Do a deed while signs are left, and tell whether it came to its end."""
        name, at = deed[0], deed[1]
        if name == "empty":
            for place in range(self.following[at]):
                if self.signs == left:
                    return False
                self.texts[at][place] = None
                self.signs += 1
            self.following[at] = 0
            return True
        for many, sign in enumerate(deed[2]):
            if self.signs == left:
                return False
            self.signs += 1
            if name == "put_side":
                self.sides[at] = sign if many == 0 else self.sides[at] + sign
            elif many == 0:
                self.following[at] += 1
                self.texts[at][self.following[at] - 1] = sign
            else:
                self.texts[at][self.following[at] - 1] += sign
        return True


DEEDS = (
    ("write", 0, "abc"), ("put_side", 1, "mark"), ("write", 0, "d"), ("write", 2, "efgh"), ("empty", 1),
    ("write", 0, "ij"), ("put_side", 0, "x"), ("put_side", 1, "longer"), ("empty", 0), ("write", 0, "kl"),
    ("empty", 2), ("write", 2, "m"), ("put_side", 0, "yz"), ("empty", 0), ("empty", 0), ("write", 0, "nop"),
)


class SizesTest(unittest.TestCase):

    def test_all_sizes(self):
        for stretches in range(3, 17):
            for places in range(2, 33):
                disk = Disk(stretches, places)
                self.assertEqual((disk.stretches(), disk.places()), (stretches, places))
                nothing = [[None] * places for stretch in range(stretches)]
                self.assertEqual(seen(disk), ([0] * stretches, nothing, [None, None], 0))

    def test_the_least_and_the_greatest_can_be_filled(self):
        for stretches, places in ((3, 2), (3, 32), (16, 2), (16, 32)):
            disk = full_disk(stretches, places)
            for stretch in range(stretches):
                self.assertEqual(disk.next_place(stretch), places)
                with self.assertRaises(Full):
                    disk.write(stretch, "x")
                for place in range(places):
                    self.assertEqual(disk.told(stretch, place), f"{stretch}.{place}")

    def test_sizes_that_no_disk_has(self):
        wrong = (True, False, None, "", "3", "5", b"3", [], [5], (5,), {}, {5: 5}, {5}, object(), Disk, Disk(3, 2))
        for thing in wrong + (-5, -1, 0, 1, 2, 17, 32, 10 ** 30, -(10 ** 30)):
            with self.subTest(stretches=repr(thing)):
                self.refused(thing, 5)
        for thing in wrong + (-5, -1, 0, 1, 33, 10 ** 30, -(10 ** 30)):
            with self.subTest(places=repr(thing)):
                self.refused(5, thing)
                self.refused(17, thing)
                self.refused(thing, thing)
        self.refused(2, 1)
        self.refused(2, 33)
        self.refused(17, 1)
        self.refused(17, 33)

    def refused(self, stretches, places):
        with self.assertRaises(NoDisk) as caught:
            Disk(stretches, places)
        self.assertIsInstance(caught.exception, CleanError)
        self.assertIsInstance(caught.exception, ValueError)


class WritingTest(unittest.TestCase):

    def test_each_text_stands_at_the_next_place(self):
        disk = Disk(3, 3)
        for place, text in enumerate(("a", "bc", "def")):
            self.assertEqual(disk.next_place(1), place)
            self.assertIsNone(disk.told(1, place))
            self.assertEqual(disk.write(1, text), place)
            self.assertEqual(disk.told(1, place), text)
        self.assertEqual(
            seen(disk), ([0, 3, 0], [[None] * 3, ["a", "bc", "def"], [None] * 3], [None, None], 6))

    def test_full_changes_nothing(self):
        disk = full_disk(3, 2)
        before = seen(disk)
        for stretch in range(3):
            with self.assertRaises(Full):
                disk.write(stretch, "x")
        self.assertEqual(seen(disk), before)

    def test_a_full_stretch_leaves_the_others_be(self):
        disk = Disk(3, 2)
        disk.write(0, "a")
        disk.write(0, "b")
        with self.assertRaises(Full):
            disk.write(0, "c")
        self.assertEqual(disk.write(1, "c"), 0)

    def test_emptied_and_written_anew(self):
        disk = full_disk(3, 3)
        self.assertIsNone(disk.empty(1))
        self.assertEqual([disk.next_place(stretch) for stretch in range(3)], [3, 0, 3])
        self.assertEqual([disk.told(1, place) for place in range(3)], [None] * 3)
        self.assertEqual(disk.write(1, "new"), 0)
        self.assertEqual([disk.told(1, place) for place in range(3)], ["new", None, None])
        self.assertEqual(disk.write(1, "newer"), 1)
        self.assertEqual([disk.told(0, place) for place in range(3)], ["0.0", "0.1", "0.2"])
        self.assertEqual([disk.told(2, place) for place in range(3)], ["2.0", "2.1", "2.2"])

    def test_sides(self):
        disk = Disk(3, 2)
        self.assertIsNone(disk.put_side(1, "one"))
        self.assertEqual((disk.side(0), disk.side(1)), (None, "one"))
        self.assertIsNone(disk.put_side(0, "nought"))
        self.assertEqual((disk.side(0), disk.side(1)), ("nought", "one"))
        disk.put_side(1, "x")
        self.assertEqual((disk.side(0), disk.side(1)), ("nought", "x"))
        self.assertEqual([disk.next_place(stretch) for stretch in range(3)], [0, 0, 0])
        disk.empty(0)
        self.assertEqual((disk.side(0), disk.side(1)), ("nought", "x"))

    def test_texts_of_any_signs_and_lengths(self):
        signs = "".join(chr(code) for code in range(32, 127)) + "\t\n"
        disk = Disk(3, 32)
        for place, text in enumerate((signs, " ", "\n", "\t", "x" * 400, "no row;", "x" * 450)):
            self.assertEqual(disk.write(0, text), place)
            self.assertEqual(disk.told(0, place), text)
        disk.put_side(0, "y" * 1500)
        self.assertEqual(disk.side(0), "y" * 1500)
        self.assertEqual(disk.signs(), len(signs) + 3 + 400 + 7 + 450 + 1500)

    def test_signs_behind_each_deed(self):
        disk = Disk(3, 3)
        model = SignBySign()
        for deed in DEEDS:
            model.do(deed, None)
            do(disk, deed)
            self.assertEqual(seen(disk), model.seen())
        disk = Disk(3, 3)
        counts = []
        for deed in DEEDS:
            do(disk, deed)
            counts.append(disk.signs())
        self.assertEqual(counts, [3, 7, 8, 12, 12, 14, 15, 21, 24, 26, 27, 28, 30, 31, 31, 34])

    def test_asking_counts_nothing(self):
        disk = full_disk(3, 2)
        self.assertEqual(seen(disk), seen(disk))
        self.assertEqual(disk.signs(), 18)


def do(disk, deed):
    """Do a deed of the tests, and check what it tells."""
    name, at = deed[0], deed[1]
    if name == "write":
        place = disk.next_place(at)
        if disk.write(at, deed[2]) != place:
            raise AssertionError("the place that is told is not the next one")
    elif name == "put_side":
        if disk.put_side(at, deed[2]) is not None:
            raise AssertionError("put_side tells something")
    elif disk.empty(at) is not None:
        raise AssertionError("empty tells something")


class StopTest(unittest.TestCase):

    def deeds_refused(self, disk):
        """Each deed on a disk that has stopped is refused, and does nothing."""
        before = seen(disk)
        for deed in (("write", 0, "q"), ("write", 1, "q"), ("put_side", 0, "q"), ("put_side", 1, "q"),
                     ("empty", 0), ("empty", 1), ("empty", 2)):
            with self.assertRaises(Stopped):
                do(disk, deed)
            self.assertEqual(seen(disk), before)

    def test_at_each_number_of_signs(self):
        whole = 34
        for left in range(whole + 3):
            disk = Disk(3, 3)
            self.assertIsNone(disk.stop(left))
            model = SignBySign()
            came_to_end = True
            for deed in DEEDS:
                came_to_end = model.do(deed, left)
                if not came_to_end:
                    with self.assertRaises(Stopped):
                        do(disk, deed)
                    self.assertEqual(seen(disk), model.seen())
                    self.deeds_refused(disk)
                    break
                do(disk, deed)
                self.assertEqual(seen(disk), model.seen())
            self.assertEqual(came_to_end, left >= whole)
            self.assertEqual(disk.signs(), min(left, whole))

    def test_in_a_text(self):
        for left in range(1, 5):
            disk = Disk(3, 2)
            disk.write(1, "a")
            disk.stop(left)
            with self.assertRaises(Stopped):
                disk.write(1, "hello")
            self.assertEqual(disk.told(1, 1), "hello"[:left])
            self.assertEqual((disk.next_place(1), disk.signs()), (2, 1 + left))
            self.deeds_refused(disk)

    def test_ahead_of_a_text(self):
        disk = Disk(3, 2)
        disk.write(1, "a")
        disk.stop(0)
        with self.assertRaises(Stopped):
            disk.write(1, "hello")
        self.assertIsNone(disk.told(1, 1))
        self.assertEqual((disk.next_place(1), disk.signs()), (1, 1))
        self.deeds_refused(disk)

    def test_at_a_side(self):
        for left in range(5):
            for side in (0, 1):
                disk = Disk(3, 2)
                disk.put_side(side, "before")
                disk.stop(left)
                with self.assertRaises(Stopped):
                    disk.put_side(side, "hello")
                self.assertEqual(disk.side(side), "hello"[:left] or "before")
                self.assertIsNone(disk.side(1 - side))
                self.assertEqual(disk.signs(), 6 + left)
                self.deeds_refused(disk)

    def test_ahead_of_the_first_text_at_a_side(self):
        disk = Disk(3, 2)
        disk.stop(0)
        with self.assertRaises(Stopped):
            disk.put_side(0, "hello")
        self.assertIsNone(disk.side(0))

    def test_in_an_emptying(self):
        texts = ["a", "bb", "ccc", "dddd"]
        for left in range(4):
            disk = Disk(3, 5)
            for text in texts:
                disk.write(2, text)
            disk.stop(left)
            with self.assertRaises(Stopped):
                disk.empty(2)
            self.assertEqual([disk.told(2, place) for place in range(5)], [None] * left + texts[left:] + [None])
            self.assertEqual((disk.next_place(2), disk.signs()), (4, 10 + left))
            self.deeds_refused(disk)

    def test_the_exact_end_of_a_deed(self):
        disk = Disk(3, 3)
        disk.stop(5)
        self.assertEqual(disk.write(0, "hello"), 0)
        self.assertEqual(disk.told(0, 0), "hello")
        with self.assertRaises(Stopped):
            disk.write(0, "x")
        disk = Disk(3, 3)
        disk.stop(5)
        disk.put_side(1, "hello")
        self.assertEqual(disk.side(1), "hello")
        with self.assertRaises(Stopped):
            disk.put_side(1, "x")
        self.assertEqual(disk.side(1), "hello")
        disk = full_disk(3, 3)
        disk.stop(3)
        disk.empty(0)
        self.assertEqual((disk.next_place(0), disk.told(0, 2)), (0, None))
        with self.assertRaises(Stopped):
            disk.empty(1)
        self.assertEqual((disk.next_place(1), disk.told(1, 0)), (3, "1.0"))

    def test_deeds_share_what_is_left(self):
        disk = Disk(3, 3)
        disk.stop(6)
        disk.write(0, "ab")
        disk.put_side(0, "c")
        disk.empty(0)
        with self.assertRaises(Stopped):
            disk.write(1, "def")
        self.assertEqual((disk.told(1, 0), disk.signs()), ("de", 6))

    def test_an_empty_stretch_is_emptied_while_none_are_left(self):
        disk = Disk(3, 2)
        disk.stop(0)
        for stretch in (0, 1, 2, 0):
            self.assertIsNone(disk.empty(stretch))
        self.assertEqual((disk.next_place(0), disk.signs()), (0, 0))
        disk.stop(1)
        disk.write(0, "a")
        self.assertIsNone(disk.empty(1))
        with self.assertRaises(Stopped):
            disk.empty(0)
        with self.assertRaises(Stopped):
            disk.empty(1)

    def test_full_goes_ahead_of_a_stop_that_is_not_met(self):
        for left in (0, 1, 5):
            disk = full_disk(3, 2)
            disk.stop(left)
            before = seen(disk)
            with self.assertRaises(Full):
                disk.write(0, "hello")
            self.assertEqual(seen(disk), before)
            # Full has not stopped it: the next deed goes as far as signs are left.
            if left >= 2:
                disk.empty(0)
            else:
                with self.assertRaises(Stopped):
                    disk.empty(0)

    def test_full_goes_behind_a_stop_that_was_met(self):
        disk = full_disk(3, 2)
        disk.stop(0)
        with self.assertRaises(Stopped):
            disk.put_side(0, "a")
        with self.assertRaises(Stopped):
            disk.write(0, "a")

    def test_a_part_takes_the_last_place(self):
        disk = Disk(3, 2)
        disk.write(0, "a")
        disk.stop(1)
        with self.assertRaises(Stopped):
            disk.write(0, "bc")
        self.assertEqual((disk.told(0, 1), disk.next_place(0)), ("b", 2))
        with self.assertRaises(Stopped):
            disk.write(0, "d")
        with self.assertRaises(Full):
            disk.copied().write(0, "d")

    def test_told_anew_ahead_of_it(self):
        disk = Disk(3, 4)
        disk.stop(1)
        disk.stop(4)
        disk.write(0, "abc")
        self.assertIsNone(disk.stop(3))
        disk.write(0, "def")
        disk.stop(9)
        disk.stop(2)
        with self.assertRaises(Stopped):
            disk.write(0, "ghi")
        self.assertEqual([disk.told(0, place) for place in range(4)], ["abc", "def", "gh", None])

    def test_none_left_has_not_stopped_it(self):
        disk = Disk(3, 4)
        disk.stop(3)
        disk.write(0, "abc")
        disk.stop(2)
        self.assertEqual(disk.write(0, "de"), 1)
        disk.stop(0)
        disk.stop(1)
        self.assertEqual(disk.write(0, "f"), 2)

    def test_told_anew_behind_it(self):
        for left in (0, 1):
            disk = Disk(3, 4)
            disk.stop(left)
            with self.assertRaises(Stopped):
                disk.write(0, "ab")
            self.assertIsNone(disk.stop(100))
            self.deeds_refused(disk)
            self.assertIsNone(disk.stop(0))
            self.deeds_refused(disk)

    def test_counted_from_where_it_was_told(self):
        disk = Disk(3, 4)
        disk.write(0, "abcdef")
        disk.stop(2)
        disk.write(0, "gh")
        self.assertEqual(disk.signs(), 8)
        with self.assertRaises(Stopped):
            disk.write(0, "i")

    def test_what_is_asked_is_told_behind_a_stop(self):
        disk = Disk(4, 3)
        disk.write(0, "ab")
        disk.put_side(1, "m")
        disk.stop(1)
        with self.assertRaises(Stopped) as caught:
            disk.write(3, "cd")
        self.assertIsInstance(caught.exception, CleanError)
        self.assertEqual((disk.stretches(), disk.places()), (4, 3))
        self.assertEqual((disk.told(0, 0), disk.told(3, 0), disk.told(3, 1)), ("ab", "c", None))
        self.assertEqual((disk.next_place(0), disk.next_place(3)), (1, 1))
        self.assertEqual((disk.side(0), disk.side(1), disk.signs()), (None, "m", 4))

    def test_disks_stop_apart(self):
        one, other = Disk(3, 2), Disk(3, 2)
        one.stop(0)
        with self.assertRaises(Stopped):
            one.write(0, "a")
        self.assertEqual(other.write(0, "a"), 0)


class CopyTest(unittest.TestCase):

    def test_a_copy_is_just_like_its_disk(self):
        disk = full_disk(4, 3)
        disk.empty(2)
        disk.put_side(0, "m")
        copy = disk.copied()
        self.assertIsInstance(copy, Disk)
        self.assertEqual((copy.stretches(), copy.places()), (4, 3))
        self.assertEqual(seen(copy), seen(disk))

    def test_apart_both_ways(self):
        disk = full_disk(3, 2)
        disk.empty(1)
        disk.put_side(0, "m")
        copy = disk.copied()
        before = seen(disk)
        copy.write(1, "copy")
        copy.empty(0)
        copy.put_side(0, "c")
        copy.put_side(1, "c")
        self.assertEqual(seen(disk), before)
        before = seen(copy)
        disk.write(1, "disk")
        disk.write(1, "disk")
        disk.empty(2)
        disk.put_side(0, "d")
        disk.put_side(1, "d")
        self.assertEqual(seen(copy), before)

    def test_without_a_stop_that_is_not_met(self):
        disk = Disk(3, 2)
        disk.stop(1)
        copy = disk.copied()
        self.assertEqual(copy.write(0, "abc"), 0)
        with self.assertRaises(Stopped):
            disk.write(0, "abc")
        self.assertEqual((disk.told(0, 0), copy.told(0, 0)), ("a", "abc"))

    def test_without_a_stop_that_was_met(self):
        disk = full_disk(3, 3)
        disk.stop(2)
        with self.assertRaises(Stopped):
            disk.empty(1)
        copy = disk.copied()
        self.assertEqual(seen(copy), seen(disk))
        with self.assertRaises(Full):
            copy.write(1, "x")
        # An emptying that stopped has left the next place, so emptied anew the stretch counts it whole.
        copy.empty(1)
        self.assertEqual((copy.next_place(1), copy.told(1, 2), copy.signs()), (0, None, 27 + 2 + 3))
        self.assertEqual(copy.write(1, "x"), 0)
        copy.put_side(1, "m")
        with self.assertRaises(Stopped):
            disk.put_side(1, "m")
        self.assertEqual(disk.told(1, 2), "1.2")

    def test_a_stop_of_a_copy_is_its_own(self):
        disk = Disk(3, 2)
        copy = disk.copied()
        copy.stop(0)
        with self.assertRaises(Stopped):
            copy.write(0, "a")
        self.assertEqual(disk.write(0, "a"), 0)

    def test_a_copy_of_a_copy(self):
        disk = Disk(3, 2)
        disk.stop(1)
        with self.assertRaises(Stopped):
            disk.write(0, "ab")
        first = disk.copied()
        first.stop(1)
        with self.assertRaises(Stopped):
            first.write(0, "cd")
        second = first.copied()
        second.empty(0)
        self.assertEqual([disk.told(0, 0), disk.told(0, 1)], ["a", None])
        self.assertEqual([first.told(0, 0), first.told(0, 1)], ["a", "c"])
        self.assertEqual([second.told(0, 0), second.told(0, 1)], [None, None])
        self.assertEqual((disk.signs(), first.signs(), second.signs()), (1, 2, 4))


if __name__ == "__main__":
    unittest.main()

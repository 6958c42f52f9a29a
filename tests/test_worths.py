"""cleanrows.worths: point 19, and of 2 and 3 what speaks of worth."""

import random
import unittest
from fractions import Fraction

from cleanrows.disks import Disk
from cleanrows.errors import Stopped
from cleanrows.risings import risen
from cleanrows.states import State, first_state
from cleanrows.worths import best, worth
from model import GREATEST, PlainHouse, disk_of, files_of, seen, stopped_in, told_of


def hot(number):
    return ("hold", number, "a")


def cold(number):
    return ("carry", number, 0, "w")


def state_of(following, spots):
    """A state in which so many births live, at such spots."""
    births = [birth for birth, stretch, place in spots]
    return State(files_of({"a": births} if births else {}, {}), spots, following, 0)


def fraction_of(places, living, age):
    due = Fraction((places - living) * age, places + living)
    return due.numerator, due.denominator


class WorthTest(unittest.TestCase):

    def assert_worth(self, disk, state, stretch, due):
        told = worth(disk, state, stretch)
        self.assertEqual(told, due)
        self.assertEqual([told.__class__, *(part.__class__ for part in told)], [tuple, int, int])

    def test_word_for_word(self):
        disk = disk_of(3, 4, [[hot(1), hot(2), hot(3)], [hot(9)]])
        # Four places, none living, age 7: 28 by 4.
        self.assert_worth(disk, state_of(10, []), 0, (7, 1))
        # One living: 3 * 7 by 5.
        self.assert_worth(disk, state_of(10, [(1, 0, 0)]), 0, (21, 5))
        # Two living: 2 * 7 by 6.
        self.assert_worth(disk, state_of(10, [(1, 0, 0), (3, 0, 2)]), 0, (7, 3))
        # Three living: 1 * 7 by 7.
        self.assert_worth(disk, state_of(10, [(1, 0, 0), (2, 0, 1), (3, 0, 2)]), 0, (1, 1))

    def test_nought_is_nought_by_one(self):
        disk = disk_of(3, 3, [[hot(1), hot(2), hot(3)], [hot(9)]])
        self.assert_worth(disk, state_of(10, [(1, 0, 0), (2, 0, 1), (3, 0, 2)]), 0, (0, 1))
        # No whole row, and next is 0.
        self.assert_worth(disk_of(3, 3, [["x"]]), first_state(), 0, (0, 1))

    def test_age_is_from_the_last_number(self):
        disk = disk_of(3, 4, [[hot(8), hot(3), cold(5)], [hot(99)]])
        self.assert_worth(disk, state_of(100, []), 0, (92, 1))
        self.assert_worth(disk, state_of(101, [(3, 0, 1)]), 0, (3 * 93, 5))

    def test_without_a_whole_row_age_is_next(self):
        for texts in (["x"], ["x", "hold 3 a "], ["x"] * 5):
            disk = disk_of(3, 5, [texts, [hot(11)]])
            self.assert_worth(disk, state_of(12, []), 0, (12, 1))
            self.assert_worth(disk, state_of(17, []), 0, (17, 1))

    def test_a_stretch_emptied_in_part(self):
        disk = disk_of(3, 4, [[hot(7), hot(2), hot(1)], [hot(9)]])
        told = [worth(stopped_in(disk, many, "empty", 0), state_of(10, []), 0) for many in range(3)]
        self.assertEqual(told, [(3, 1), (8, 1), (9, 1)])

    def test_what_lives_in_other_stretches_does_not_count(self):
        disk = disk_of(3, 4, [[hot(1)], [hot(2)], [hot(3)]])
        self.assert_worth(disk, state_of(4, [(2, 1, 0), (3, 2, 0)]), 0, (3, 1))

    def test_all_sizes_in_lowest_terms(self):
        for places in range(2, 33):
            disk = disk_of(3, places, [[hot(at) for at in range(places)], [hot(GREATEST - 1)]])
            for living in range(places + 1):
                for following in (places, places + 1, 97, 2310, GREATEST):
                    state = state_of(following, [(at, 0, at) for at in range(living)])
                    due = fraction_of(places, living, following - places + 1)
                    self.assert_worth(disk, state, 0, due)


class BestTest(unittest.TestCase):

    def test_none_where_none_is_closed(self):
        for disk in (Disk(3, 2), disk_of(3, 2, [[hot(0)]]), disk_of(3, 2, [[hot(0)], [cold(1)]])):
            for kind in ("worth", "least"):
                self.assertIsNone(best(disk, state_of(2, []), kind))

    def test_one(self):
        disk = disk_of(4, 2, [[], [hot(0), hot(1)], [hot(2)], []])
        for spots in ([], [(0, 1, 0)], [(0, 1, 0), (1, 1, 1)]):
            for kind in ("worth", "least"):
                self.assertEqual(best(disk, state_of(3, spots), kind), 1)

    def test_kinds_differ(self):
        # Stretch 0 is old and one of it lives, stretch 1 is young and nothing lives in it.
        disk = disk_of(4, 3, [[hot(0), hot(1), hot(2)], [hot(96), hot(97), hot(98)], [hot(99)]])
        state = state_of(100, [(1, 0, 1)])
        self.assertEqual((worth(disk, state, 0), worth(disk, state, 1)), ((49, 1), (2, 1)))
        self.assertEqual(best(disk, state, "worth"), 0)
        self.assertEqual(best(disk, state, "least"), 1)

    def test_of_several_the_least_number(self):
        disk = disk_of(5, 2, [[hot(8)], [hot(3)], [hot(3 + 1)], ["x"], [hot(9)]])
        self.assertEqual(best(disk, state_of(10, []), "least"), 0)
        self.assertEqual(best(disk, state_of(10, [(8, 0, 0)]), "least"), 1)
        self.assertEqual(best(disk, state_of(10, [(8, 0, 0), (3, 1, 0), (4, 2, 0)]), "least"), 3)
        # Without a whole row the age is next itself, the greatest there is.
        self.assertEqual(best(disk, state_of(10, []), "worth"), 3)
        alike = disk_of(5, 2, [["x"], ["y"], ["z"], [hot(9)]])
        for kind in ("worth", "least"):
            self.assertEqual(best(alike, state_of(10, []), kind), 0)
            alike.empty(0)
            self.assertEqual(best(alike, state_of(10, []), kind), 1)
            alike.write(0, "x")

    def test_alike_worths_of_unlike_stretches(self):
        # 2 * 3 by 2, and 1 * 9 by 3: both are 3.
        disk = disk_of(4, 2, [[hot(7)], [hot(1)], [hot(9)]])
        state = state_of(10, [(1, 1, 0)])
        self.assertEqual((worth(disk, state, 0), worth(disk, state, 1)), ((3, 1), (3, 1)))
        self.assertEqual(best(disk, state, "worth"), 0)
        disk = disk_of(4, 2, [[hot(1)], [hot(7)], [hot(9)]])
        state = state_of(10, [(1, 0, 0)])
        self.assertEqual(best(disk, state, "worth"), 0)
        self.assertEqual(best(disk, state, "least"), 1)

    def test_nought_of_all(self):
        disk = disk_of(4, 2, [[hot(0), hot(1)], [hot(2), hot(3)], [hot(4)]])
        state = state_of(5, [(0, 0, 0), (1, 0, 1), (2, 1, 0), (3, 1, 1)])
        for kind in ("worth", "least"):
            self.assertEqual(best(disk, state, kind), 0)

    def test_worths_near_to_each_other(self):
        # Compared as fractions: GREATEST and GREATEST - 1 by the same lower one are alike as numbers with a point.
        disk = disk_of(4, 2, [[hot(1)], [hot(0)], [hot(3)]])
        self.assertEqual(best(disk, state_of(GREATEST, []), "worth"), 1)
        disk = disk_of(4, 2, [[hot(0)], [hot(1)], [hot(3)]])
        self.assertEqual(best(disk, state_of(GREATEST, []), "worth"), 0)


class TogetherTest(unittest.TestCase):

    def due(self, house):
        """Worths by stretch, and the best ones, as the house's own memory tells them."""
        worths = {stretch: house.worth(stretch) for stretch in house.closed()}
        terms = {stretch: (one.numerator, one.denominator) for stretch, one in worths.items()}
        return terms, house.best("worth"), house.best("least")

    def asked(self, disk, state, stretches):
        worths = {stretch: worth(disk, state, stretch) for stretch in stretches}
        return worths, best(disk, state, "worth"), best(disk, state, "least")

    def test_long_rows_of_deeds_with_stops(self):
        asked = unlike = 0
        for seed in range(60):
            chance = random.Random(seed)
            house = PlainHouse(Disk(chance.randint(4, 12), chance.randint(2, 6)))
            house.mark()
            for turn in range(40):
                house.walk(chance, 0.2, 60)
                state = risen(house.disk)
                ahead = seen(house.disk), told_of(state)
                due = self.due(house)
                self.assertEqual(self.asked(house.disk, state, house.closed()), due)
                self.assertEqual(self.asked(house.disk.copied(), state, house.closed()), due)
                self.assertEqual((seen(house.disk), told_of(state)), ahead)
                asked += len(due[0])
                unlike += due[1] != due[2]
        self.assertGreater(asked, 1000)
        self.assertGreater(unlike, 50)

    def test_on_a_disk_that_has_stopped(self):
        disk = disk_of(4, 2, [[hot(0), hot(1)], [hot(2)]])
        disk.stop(0)
        with self.assertRaises(Stopped):
            disk.empty(0)
        self.assertEqual(worth(disk, state_of(3, []), 0), (2, 1))
        self.assertEqual(best(disk, state_of(3, []), "worth"), 0)
        self.assertEqual(best(disk, state_of(3, []), "least"), 0)


if __name__ == "__main__":
    unittest.main()

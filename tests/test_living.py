"""cleanrows.living: point 18, and of 2 and 3 what speaks of what lives and what is waste."""

import random
import unittest

from cleanrows.disks import Disk
from cleanrows.errors import Stopped
from cleanrows.living import closed, last_number, living_in, waste
from cleanrows.risings import risen
from cleanrows.states import State, first_state
from model import GREATEST, PlainHouse, disk_of, files_of, row_text_of, seen, stopped_in, told_of


def hot(number):
    return ("cut", number, "a", 0)


def cold(number):
    return ("carry", number, 0, "w")


def state_of(births, held, spots):
    return State(files_of({"a": births} if births else {}, {"h": {"a": held}} if held else {}), spots, 1000, 3)


def all_asked(disk, state):
    """All that this file's functions tell, of all stretches."""
    stretches = range(disk.stretches())
    return (
        [living_in(state, stretch) for stretch in stretches], [waste(disk, state, stretch) for stretch in stretches],
        closed(disk), [last_number(disk, stretch) for stretch in stretches])


class LivingInTest(unittest.TestCase):

    def test_none(self):
        for stretch in range(16):
            self.assertEqual(living_in(first_state(), stretch), [])

    def test_by_places_and_not_by_births(self):
        spots = [(5, 1, 3), (10, 1, 0), (7, 2, 0), (9, 1, 10), (2, 1, 9), (100, 1, 31), (6, 1, 2)]
        state = state_of([5, 10, 7, 9, 2, 100, 6], [], spots)
        self.assertEqual(living_in(state, 1), [10, 6, 5, 2, 9, 100])
        self.assertEqual(living_in(state, 2), [7])
        for stretch in (0, 3, 15):
            self.assertEqual(living_in(state, stretch), [])
        self.assertIsInstance(living_in(state, 0), list)

    def test_in_held_files_alone(self):
        state = state_of([4], [3, 2], [(4, 0, 1), (3, 0, 0), (2, 0, 2)])
        self.assertEqual(living_in(state, 0), [3, 4, 2])
        state = state_of([], [3, 2], [(3, 5, 1), (2, 5, 0)])
        self.assertEqual(living_in(state, 5), [2, 3])

    def test_a_birth_that_stands_at_several_places_of_files(self):
        state = state_of([4, 4], [4, 1], [(4, 0, 1), (1, 0, 0)])
        self.assertEqual(living_in(state, 0), [1, 4])

    def test_all_orders(self):
        for seed in range(50):
            chance = random.Random(seed)
            births = chance.sample(range(GREATEST - 300, GREATEST), 100)
            places = chance.sample([(stretch, place) for stretch in range(16) for place in range(32)], 100)
            spots = [(birth, *place) for birth, place in zip(births, places)]
            state = State(files_of({"a": births[:60], "b": births[60:]}, {}), spots, GREATEST, 0)
            by_place = {place: birth for birth, place in zip(births, places)}
            for stretch in range(16):
                due = [by_place[stretch, place] for place in range(32) if (stretch, place) in by_place]
                self.assertEqual(living_in(state, stretch), due)


class WasteTest(unittest.TestCase):

    def test_written_and_not_living(self):
        disk = disk_of(4, 5, [[hot(0), hot(1), hot(2)], [cold(3), "x"], [], ["x"] * 5])
        self.assertEqual([waste(disk, first_state(), stretch) for stretch in range(4)], [3, 2, 0, 5])
        state = state_of([0, 2], [3], [(0, 0, 0), (2, 0, 2), (3, 1, 0)])
        self.assertEqual([waste(disk, state, stretch) for stretch in range(4)], [1, 1, 0, 5])
        state = state_of([0, 1, 2], [], [(0, 0, 0), (1, 0, 1), (2, 0, 2)])
        self.assertEqual([waste(disk, state, stretch) for stretch in range(4)], [0, 2, 0, 5])

    def test_places_emptied_in_part_are_waste_until_all_are(self):
        disk = disk_of(3, 5, [["x", "y", "z"]])
        for many in range(3):
            self.assertEqual(waste(stopped_in(disk, many, "empty", 0), first_state(), 0), 3)
        disk.empty(0)
        self.assertEqual(waste(disk, first_state(), 0), 0)

    def test_beginnings_of_rows_are_waste(self):
        disk = Disk(3, 2)
        self.assertEqual(waste(stopped_in(disk, 1, "write", 2, row_text_of(hot(0))), first_state(), 2), 1)
        self.assertEqual(waste(stopped_in(disk, 0, "write", 2, row_text_of(hot(0))), first_state(), 2), 0)


class ClosedTest(unittest.TestCase):

    def test_none(self):
        self.assertEqual(closed(Disk(3, 2)), [])
        self.assertEqual(closed(disk_of(3, 2, [[hot(0)], [cold(1)]])), [])
        self.assertEqual(closed(disk_of(3, 2, [[], [cold(1)]])), [])
        self.assertIsInstance(closed(Disk(3, 2)), list)

    def test_neither_empty_nor_an_end(self):
        disk = disk_of(7, 2, [[hot(1)], [hot(9), hot(0)], [], [cold(12)], [cold(11)], [hot(8)], ["x"]])
        self.assertEqual(closed(disk), [0, 4, 5, 6])
        disk.write(2, row_text_of(hot(20)))
        self.assertEqual(closed(disk), [0, 1, 4, 5, 6])
        disk.empty(2)
        disk.empty(5)
        disk.write(4, row_text_of(cold(21)))
        self.assertEqual(closed(disk), [0, 3, 6])

    def test_full_ends_are_not_closed(self):
        self.assertEqual(closed(disk_of(3, 2, [[hot(0), hot(1)], [cold(2), cold(3)]])), [])

    def test_stretches_without_a_whole_row(self):
        for texts in ([["x"]], [["x"], [row_text_of(hot(0))[:-1]], ["mark 0 0 0 0 0 5393;"]]):
            self.assertEqual(closed(disk_of(3, 2, texts)), list(range(len(texts))))
        disk = disk_of(3, 2, [[hot(0)], [hot(1)]])
        self.assertEqual(closed(disk), [0])
        self.assertEqual(closed(stopped_in(disk, 3, "write", 2, row_text_of(hot(2)))), [0, 2])
        self.assertEqual(closed(stopped_in(disk, 0, "write", 2, row_text_of(hot(2)))), [0])

    def test_emptied_in_part(self):
        disk = disk_of(3, 3, [[hot(0), hot(1), hot(2)], [hot(3)]])
        for many in range(3):
            self.assertEqual(closed(stopped_in(disk, many, "empty", 0)), [0])
        disk.empty(0)
        self.assertEqual(closed(disk), [])


class LastNumberTest(unittest.TestCase):

    def test_none(self):
        self.assertIsNone(last_number(Disk(3, 2), 1))
        disk = disk_of(3, 2, [["x", row_text_of(hot(7))[:-1]]])
        self.assertEqual([last_number(disk, stretch) for stretch in range(3)], [None] * 3)

    def test_the_greatest_and_not_the_last(self):
        rows = [hot(9), hot(100), ("put", 99, 0, True, "a", 0, "w"), ("hold", 10, "a"), ("free", 3, "a")]
        disk = disk_of(4, 6, [rows, [cold(4), "x", cold(2)], [cold(GREATEST)], [hot(0)]])
        self.assertEqual([last_number(disk, stretch) for stretch in range(4)], [100, 4, GREATEST, 0])

    def test_of_each_kind(self):
        for row in (hot(5), cold(5), ("hold", 5, "a"), ("free", 5, "a"), ("put", 5, 9, False, "a", 8, "7")):
            self.assertEqual(last_number(disk_of(3, 2, [[], ["x", row]]), 1), 5)

    def test_emptied_in_part(self):
        disk = disk_of(3, 3, [[hot(7), hot(5), hot(6)]])
        told = [last_number(stopped_in(disk, many, "empty", 0), 0) for many in range(3)]
        self.assertEqual(told, [7, 6, 6])
        disk.empty(0)
        self.assertIsNone(last_number(disk, 0))


class TogetherTest(unittest.TestCase):

    def due(self, house):
        """What is due of a house, by what it remembers itself."""
        stretches = range(house.disk.stretches())
        living = [house.living_in(stretch) for stretch in stretches]
        wasted = [house.disk.next_place(stretch) - len(living[stretch]) for stretch in stretches]
        numbers = [max((row[1] for row, at, place in house.placed if at == one), default=None) for one in stretches]
        return living, wasted, house.closed(), numbers

    def test_long_rows_of_deeds_with_stops(self):
        asked = 0
        for seed in range(40):
            chance = random.Random(seed)
            house = PlainHouse(Disk(chance.randint(3, 9), chance.randint(2, 6)))
            house.mark()
            for turn in range(40):
                house.walk(chance, 0.3, 60)
                state = risen(house.disk)
                ahead = seen(house.disk), told_of(state)
                self.assertEqual(all_asked(house.disk, state), self.due(house))
                self.assertEqual((seen(house.disk), told_of(state)), ahead)
                asked += len(house.closed())
        self.assertGreater(asked, 500)

    def test_two_hundred_texts(self):
        house = PlainHouse(Disk(16, 32))
        house.mark()
        for number in range(25):
            house.put("a", [(place % (8 * number + 1), "w") if number else (place, "w") for place in range(8)])
        self.assertEqual(house.following, 200)
        self.assertEqual(all_asked(house.disk, risen(house.disk)), self.due(house))

    def test_asked_again_on_a_copy_and_on_a_disk_that_has_stopped(self):
        disk = disk_of(4, 3, [[hot(0), hot(1)], [hot(2)], [cold(3), "x"]])
        state = state_of([0], [3], [(0, 0, 0), (3, 2, 0)])
        told = all_asked(disk, state)
        self.assertEqual(told, ([[0], [], [3], []], [1, 1, 1, 0], [0], [1, 2, 3, None]))
        self.assertEqual(all_asked(disk, state), told)
        self.assertEqual(all_asked(disk.copied(), state), told)
        disk.stop(0)
        with self.assertRaises(Stopped):
            disk.write(3, "x")
        self.assertEqual(all_asked(disk, state), told)
        self.assertEqual(all_asked(disk.copied(), state), told)

    def test_what_is_told_is_its_askers_own(self):
        disk = disk_of(4, 3, [[hot(0), hot(1)], [hot(2)], [cold(3), "x"]])
        state = state_of([0], [3], [(0, 0, 0), (3, 2, 0)])
        told = all_asked(disk, state)
        births, stretches = living_in(state, 0), closed(disk)
        births.append(7)
        stretches.clear()
        self.assertEqual(all_asked(disk, state), told)
        stretches = closed(disk)
        disk.empty(0)
        self.assertEqual(stretches, [0])


if __name__ == "__main__":
    unittest.main()

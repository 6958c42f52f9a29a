"""cleanrows.plans: points 24 to 26, and of 2, 3 and 4 what speaks of room and plans."""

import copy
import itertools
import random
import unittest

from cleanrows.disks import Disk
from cleanrows.errors import NoRoom, Stopped
from cleanrows.houses import House, house_of
from cleanrows.plans import cleaned, paper, plan, room
from cleanrows.risings import risen
from cleanrows.states import State, first_state
from model import PlainHouse, disk_of, files_of, seen, stopped_in, told_of


def hot(number):
    return ("hold", number, "a")


def cold(number):
    return ("carry", number, 0, "w")


def state_of(spots):
    births = [birth for birth, stretch, place in spots]
    return State(files_of({"a": births} if births else {}, {}), spots, 1000, 0)


class Counted:
    """What the tests count of a disk and a state: places that are free, row by row, and what lives in each stretch."""

    def __init__(self, disk, state):
        ends = {True: (-1, None), False: (-1, None)}
        self.places = disk.places()
        nexts = [disk.next_place(stretch) for stretch in range(disk.stretches())]
        for stretch, many in enumerate(nexts):
            for place in range(many):
                words = (disk.told(stretch, place) or "").split(" ")
                # All whole texts of these tests are rows, and end so.
                if words[-1].endswith(";"):
                    ends[words[0] != "carry"] = max(ends[words[0] != "carry"], (int(words[1]), stretch))
        hot_end, cold_end = ends[True][1], ends[False][1]
        self.hot_free = 0 if hot_end is None else self.places - nexts[hot_end]
        self.cold_free = 0 if cold_end is None else self.places - nexts[cold_end]
        self.empties = nexts.count(0)
        self.closed = [at for at, many in enumerate(nexts) if many and at not in (hot_end, cold_end)]
        self.living = [sum(at == stretch for birth, at, place in state.spots()) for stretch in range(len(nexts))]

    def room(self, empties):
        return self.hot_free + (empties - 1) * self.places if empties else self.hot_free

    def cleaned(self, stretches):
        free, empties, carried = self.cold_free, self.empties, 0
        for stretch in stretches:
            for row in range(self.living[stretch]):
                if free == 0:
                    if empties == 0:
                        return None
                    empties, free = empties - 1, self.places
                free -= 1
                carried += 1
            empties += 1
        return self.room(empties), carried

    def in_order(self, stretches):
        return sorted(stretches, key=lambda stretch: (self.living[stretch], stretch))

    def choices(self):
        """Each choice of closed stretches, sorted, the greatest room that an order of it makes, and what it carries."""
        found = []
        for many in range(len(self.closed) + 1):
            for choice in itertools.combinations(self.in_order(self.closed), many):
                told = [self.cleaned(order) for order in itertools.permutations(choice)]
                told = [one for one in told if one is not None]
                if told:
                    found.append((list(choice), max(told)[0], told[0][1]))
        return found

    def plan(self, use, choices):
        """The plan by all orders of all choices."""
        rank = self.in_order(self.closed)
        fit = [(carried, len(choice), [rank.index(one) for one in choice], choice, told)
               for choice, told, carried in choices if told >= use]
        if not fit:
            return None
        carried, many, ranks, choice, told = min(fit)
        return choice, carried, told

    def paper(self, use, choices):
        due = self.plan(use, choices)
        rank = self.in_order(self.closed)
        rooms = [self.cleaned(rank[:many]) for many in range(len(rank) + 1)]
        return [one and one[0] for one in rooms[:len(due[0]) if due else None]]


def some_disk(chance):
    """A disk, of whatever past, and a state with it."""
    stretches, places = chance.randint(3, 7), chance.randint(2, 4)
    numbers = chance.sample(range(500), stretches * places)
    texts, spots = [], []
    for stretch in range(stretches):
        kind = chance.choice(("hot", "hot", "hot", "cold", "empty", "torn"))
        part = []
        for place in range(0 if kind == "empty" else chance.randint(1, places)):
            number = numbers.pop()
            is_torn = kind == "torn" or chance.random() < 0.1
            row = cold(number) if kind == "cold" else ("put", number, 0, True, "a", 0, "w")
            part.append("torn" if is_torn else row)
            if not is_torn and chance.random() < 0.6:
                spots.append((number, stretch, place))
        texts.append(part)
    return disk_of(stretches, places, texts), state_of(spots)


class RoomTest(unittest.TestCase):

    def test_on_blank_disks(self):
        for stretches in range(3, 17):
            for places in range(2, 33):
                self.assertEqual(room(Disk(stretches, places)), (stretches - 1) * places)

    def test_the_hot_end_and_all_empty_stretches_but_one(self):
        self.assertEqual(room(disk_of(5, 4, [[hot(0)]])), 3 + 12)
        self.assertEqual(room(disk_of(5, 4, [[hot(0)] * 4])), 12)
        self.assertEqual(room(disk_of(5, 4, [[hot(0)], [cold(1)]])), 3 + 8)
        self.assertEqual(room(disk_of(5, 4, [["x"], [cold(1)]])), 8)
        self.assertEqual(room(disk_of(5, 4, [["x"], [hot(1), "x"], ["x"], ["x"]])), 2)
        self.assertEqual(room(disk_of(5, 4, [["x"], [hot(1)], ["x"], ["x"], ["x"]])), 3)
        self.assertEqual(room(disk_of(3, 4, [["x"], ["x"], ["x"]])), 0)
        self.assertEqual(room(disk_of(3, 4, [["x"], ["x"]])), 0)
        self.assertEqual(room(disk_of(3, 4, [["x"]])), 4)

    def test_behind_a_stop(self):
        disk = disk_of(4, 3, [[hot(0), hot(1), hot(2)], [hot(3)]])
        self.assertEqual(room(disk), 2 + 3)
        self.assertEqual(room(stopped_in(disk, 0, "write", 1, "hold")), 2 + 3)
        self.assertEqual(room(stopped_in(disk, 2, "write", 1, "hold")), 1 + 3)
        self.assertEqual(room(stopped_in(disk, 2, "write", 2, "hold")), 2)
        for many in range(3):
            self.assertEqual(room(stopped_in(disk, many, "empty", 0)), 2 + 3)
        disk.empty(0)
        self.assertEqual(room(disk), 2 + 6)

    def test_asking_counts_no_sign(self):
        disk = disk_of(4, 3, [[hot(0)], [cold(1)]])
        ahead = seen(disk)
        self.assertEqual([room(disk), room(disk), room(disk.copied())], [5, 5, 5])
        self.assertEqual(seen(disk), ahead)
        disk.stop(0)
        with self.assertRaises(Stopped):
            disk.write(3, "x")
        self.assertEqual(room(disk), 5)


class CleanedTest(unittest.TestCase):

    def test_none_at_all(self):
        disk = disk_of(5, 4, [[hot(0)]])
        for nothing in ([], ()):
            self.assertEqual(cleaned(disk, first_state(), nothing), (15, 0))

    def test_word_for_word(self):
        # Two stretches with two and with one living, one of waste, an end with a free place, two empty.
        disk = disk_of(6, 3, [[hot(0)] * 3, [hot(1)] * 3, ["x"] * 3, [hot(9), hot(8)]])
        state = state_of([(1, 0, 0), (2, 0, 1), (3, 1, 2)])
        self.assertEqual(room(disk), 1 + 3)
        for stretches, due in (
                ([2], (1 + 6, 0)), ([1], (1 + 3, 1)), ([0], (1 + 3, 2)), ([1, 0], (1 + 6, 3)), ([0, 1], (1 + 6, 3)),
                ([0, 1, 2], (1 + 9, 3)), ([2, 1, 0], (1 + 9, 3))):
            for handed in (stretches, tuple(stretches)):
                told = cleaned(disk, state, handed)
                self.assertEqual(told, due)
                self.assertIsInstance(told, tuple)

    def test_none_where_one_would_be_refused(self):
        # No stretch is empty, and the cold end has one free place.
        disk = disk_of(4, 3, [[cold(0)] * 2, [hot(1)] * 3, [hot(2)] * 3, [hot(9)]])
        two_and_one = state_of([(1, 1, 0), (2, 1, 1), (3, 2, 0)])
        self.assertIsNone(cleaned(disk, two_and_one, [1]))
        self.assertIsNone(cleaned(disk, two_and_one, [1, 2]))
        self.assertEqual(cleaned(disk, two_and_one, [2]), (2, 1))
        self.assertEqual(cleaned(disk, two_and_one, [2, 1]), (2, 3))
        self.assertIsNone(cleaned(disk, state_of([(1, 1, 0), (2, 1, 1), (3, 2, 0), (4, 2, 2)]), [2, 1]))
        self.assertEqual(cleaned(disk, state_of([(1, 1, 0)]), [2, 1]), (2 + 3, 1))

    def test_all_that_lives_fills_all(self):
        disk = disk_of(3, 2, [[hot(0)] * 2, [hot(1)]])
        state = state_of([(5, 0, 0), (6, 0, 1)])
        self.assertEqual(cleaned(disk, state, [0]), (1, 2))

    def test_against_counting_row_by_row(self):
        told_none = 0
        for seed in range(600):
            chance = random.Random(seed)
            disk, state = some_disk(chance)
            due = Counted(disk, state)
            for turn in range(10):
                order = chance.sample(due.closed, chance.randint(0, len(due.closed)))
                told_none += due.cleaned(order) is None
                self.assertEqual(cleaned(disk, state, order), due.cleaned(order))
        self.assertGreater(told_none, 100)

    def test_against_cleaning_in_truth(self):
        done = refused = 0
        for seed in range(80):
            chance = random.Random(seed)
            plain = PlainHouse(Disk(chance.randint(3, 7), chance.randint(2, 4)))
            plain.mark()
            for turn in range(25):
                plain.walk(chance, 0.4, 90)
            plain.go_on()
            state = risen(plain.disk)
            for turn in range(3):
                order = chance.sample(plain.closed(), chance.randint(0, len(plain.closed())))
                house = house_of(plain.disk.copied())
                due = None
                try:
                    for stretch in order:
                        house.clean(stretch)
                    due = room(house.disk()), house.carried()
                    done += 1
                except NoRoom:
                    refused += 1
                self.assertEqual(cleaned(plain.disk, state, order), due)
        self.assertGreater(done, 100)
        self.assertGreater(refused, 3)


class PlanTest(unittest.TestCase):

    def assert_plan(self, disk, state, use, due):
        told = plan(disk, state, use)
        self.assertEqual(told, due)
        if due is not None:
            self.assertEqual([told.__class__, *(part.__class__ for part in told)], [tuple, list, int, int])

    def setUp(self):
        # By living: stretch 2 none, 1 and 3 one each, 0 two; the end is 4; 5 is empty.
        self.disk = disk_of(6, 3, [[hot(0)] * 3, [hot(1)] * 3, ["x"] * 3, [hot(3)] * 3, [hot(9), hot(8)]])
        self.state = state_of([(1, 0, 0), (2, 0, 1), (3, 1, 2), (4, 3, 0)])

    def test_word_for_word(self):
        self.assertEqual(room(self.disk), 1)
        for use, due in (
                (0, ([], 0, 1)), (1, ([], 0, 1)), (2, ([2], 0, 4)), (4, ([2], 0, 4)), (5, ([2, 1, 3], 2, 7)),
                (7, ([2, 1, 3], 2, 7)), (8, None), (100, None), (10 ** 17, None)):
            self.assert_plan(self.disk, self.state, use, due)

    def test_papers_word_for_word(self):
        rooms = [1, 4, 4, 7, 7]
        for use, many in ((0, 0), (1, 0), (2, 1), (4, 1), (5, 3), (7, 3), (8, 5), (100, 5)):
            told = paper(self.disk, self.state, use)
            self.assertEqual(told, rooms[:many])
            self.assertIsInstance(told, list)

    def test_papers_with_none(self):
        disk = disk_of(4, 3, [[hot(0)] * 3, [hot(1)] * 3, [hot(9)], ["x"]])
        state = state_of([(1, 0, 0), (2, 1, 1), (3, 1, 2)])
        # No stretch is empty: the torn one first, then one living, then two.
        self.assertEqual(paper(disk, state, 100), [2, 2, 2, 2 + 3])
        disk.write(2, "x")
        state = state_of([(1, 0, 0), (2, 1, 1), (3, 1, 2), (4, 3, 0)])
        self.assertEqual(paper(disk, state, 100), [1, None, None, None])
        self.assertIsNone(plan(disk, state, 2))
        self.assertEqual(plan(disk, state, 1), ([], 0, 1))
        self.assertEqual(paper(disk, state, 1), [])

    def test_none_closed(self):
        disk = disk_of(3, 2, [[hot(0)]])
        self.assert_plan(disk, first_state(), 3, ([], 0, 3))
        self.assert_plan(disk, first_state(), 4, None)
        self.assertEqual(paper(disk, first_state(), 3), [])
        self.assertEqual(paper(disk, first_state(), 4), [3])

    def test_of_alike_ones_the_least_numbers(self):
        disk = disk_of(7, 2, [["x"], ["x"], [hot(9)], ["x"], ["x"]])
        self.assert_plan(disk, first_state(), 4, ([0], 0, 5))
        self.assert_plan(disk, first_state(), 6, ([0, 1], 0, 7))
        self.assert_plan(disk, first_state(), 8, ([0, 1, 3], 0, 9))
        self.assert_plan(disk, first_state(), 10, ([0, 1, 3, 4], 0, 11))

    def test_against_all_orders_of_all_choices(self):
        plans = nones = 0
        for seed in range(250):
            disk, state = some_disk(random.Random(seed))
            counted = Counted(disk, state)
            if len(counted.closed) > 5:
                continue
            choices = counted.choices()
            for use in range(disk.stretches() * disk.places() + 2):
                due = counted.plan(use, choices)
                self.assert_plan(disk, state, use, due)
                self.assertEqual(paper(disk, state, use), counted.paper(use, choices))
                plans += due is not None and len(due[0]) > 1
                nones += due is None
        self.assertGreater(plans, 200)
        self.assertGreater(nones, 200)

    def test_a_plan_that_is_done_makes_the_room(self):
        done = 0
        for seed in range(60):
            chance = random.Random(seed)
            plain = PlainHouse(Disk(chance.randint(4, 9), chance.randint(2, 4)))
            plain.mark()
            for turn in range(chance.randint(5, 30)):
                plain.walk(chance, 0.2, 60)
            plain.go_on()
            state = risen(plain.disk)
            for use in range(plain.disk.stretches() * plain.disk.places() + 1):
                told = plan(plain.disk, state, use)
                if told is None:
                    continue
                house = house_of(plain.disk.copied())
                for stretch in told[0]:
                    house.clean(stretch)
                self.assertEqual((house.carried(), room(house.disk())), told[1:])
                self.assertGreaterEqual(told[2], use)
                for row in range(use):
                    house.put("new", [(0, "w")])
                done += len(told[0]) > 0
        self.assertGreater(done, 100)


class AskedTest(unittest.TestCase):

    def setUp(self):
        self.disk = disk_of(6, 3, [[hot(0)] * 3, [hot(1)] * 3, ["x"] * 3, [hot(9), hot(8)]])
        self.state = state_of([(1, 0, 0), (2, 0, 1), (3, 1, 2)])

    def all_asked(self, disk):
        stretches = [2, 1]
        told = (
            room(disk), cleaned(disk, self.state, stretches), [plan(disk, self.state, use) for use in range(12)],
            [paper(disk, self.state, use) for use in range(12)])
        self.assertEqual(stretches, [2, 1])
        return copy.deepcopy(told)

    def test_asking_changes_nothing(self):
        ahead = seen(self.disk), told_of(self.state)
        told = self.all_asked(self.disk)
        self.assertEqual(self.all_asked(self.disk), told)
        self.assertEqual(self.all_asked(self.disk.copied()), told)
        self.assertEqual((seen(self.disk), told_of(self.state)), ahead)

    def test_what_is_told_is_its_askers_own(self):
        told = self.all_asked(self.disk)
        plan(self.disk, self.state, 10)[0].clear()
        plan(self.disk, self.state, 0)[0].append(1)
        paper(self.disk, self.state, 10).append(7)
        self.assertEqual(self.all_asked(self.disk), told)

    def test_a_disk_that_has_stopped_tells_all(self):
        told = self.all_asked(self.disk)
        self.disk.stop(0)
        with self.assertRaises(Stopped):
            self.disk.empty(0)
        self.assertEqual(self.all_asked(self.disk), told)
        self.assertEqual(self.all_asked(self.disk.copied()), told)

    def test_what_a_house_of_two_hundred_texts_tells(self):
        house = House(Disk(16, 16))
        for turn in range(25):
            house.put("a", [(place, f"w{turn}") for place in range(8)])
        self.assertEqual(room(house.disk()), 8 + 2 * 16)
        self.assertEqual(cleaned(house.disk(), house.state(), list(range(12))), (8 + 14 * 16, 0))
        self.assertEqual(plan(house.disk(), house.state(), 50), ([0], 0, 8 + 3 * 16))
        self.assertEqual(len(paper(house.disk(), house.state(), 10 ** 6)), 13)


if __name__ == "__main__":
    unittest.main()

"""cleanrows.houses: points 20 to 23, and of 2, 3 and 4 what speaks of houses."""

import random
import unittest

from cleanrows.disks import Disk
from cleanrows.errors import (
    CleanError, HeldAlready, NoFile, NoMark, NoPlace, NoRoom, NotBlank, NotClosed, NotHeld, Stopped)
from cleanrows.houses import House, house_of
from cleanrows.plans import room
from cleanrows.risings import risen, risen_all
from cleanrows.states import State
from model import PlainHouse, all_due, all_told, any_deed, disk_of, row_text_of, seen, told_of, words_of

FIRST_MARK = "mark 0 0 0 0 0 5393;"


def do(house, deed):
    """Do a deed to a house, as its name and what is handed in with it."""
    return getattr(house, deed[0])(*deed[1:])


def signs_of(house, deed):
    """How many signs a deed counts that a house is about to do."""
    other = house_of(house.disk().copied())
    do(other, deed)
    return other.disk().signs() - house.disk().signs()


def plain_house(stretches, places):
    plain = PlainHouse(Disk(stretches, places))
    plain.mark()
    return plain


def pair_of_houses(stretches, places):
    """A new house, and the test's own."""
    return House(Disk(stretches, places)), plain_house(stretches, places)


class HousesCase(unittest.TestCase):

    def assert_refused(self, error, ask, *parts):
        with self.assertRaises(CleanError) as caught:
            ask(*parts)
        self.assertIs(caught.exception.__class__, error, parts)

    def assert_deed_refused(self, error, house, deed):
        """That a deed is refused, and that nothing has changed by it."""
        ahead = seen(house.disk()), told_of(house.state()), house.carried()
        self.assert_refused(error, do, house, deed)
        self.assertEqual((seen(house.disk()), told_of(house.state()), house.carried()), ahead)

    def assert_alike(self, house, plain):
        """That all of a house, and of one that comes up with a copy of its disk, is as the test's own house has it."""
        self.assertEqual(seen(house.disk()), seen(plain.disk))
        self.assertEqual(told_of(house.state()), plain.told())
        self.assertEqual(all_told(house.files()), plain.told()[0])
        self.assertEqual(words_of(house), plain.all_words())
        self.assertEqual(house.carried(), plain.carried)
        copy = house.disk().copied()
        other = house_of(copy)
        self.assertEqual(seen(copy), seen(plain.disk))
        self.assertEqual(told_of(other.state()), plain.told())
        self.assertEqual(words_of(other), plain.all_words())
        self.assertEqual(other.carried(), 0)

    def lead(self, house, plain, deed):
        """Do a deed to both, and look at all of both."""
        self.assertIsNone(do(house, deed))
        plain.do_deed(deed)
        self.assert_alike(house, plain)


class NewTest(HousesCase):

    def test_a_new_house(self):
        for sizes in ((3, 2), (16, 32)):
            disk = Disk(*sizes)
            house = House(disk)
            self.assertIsInstance(house, House)
            self.assertIs(house.disk(), disk)
            self.assertEqual((disk.side(0), disk.side(1), disk.signs()), (FIRST_MARK, None, len(FIRST_MARK)))
            self.assertEqual(told_of(house.state()), (all_due({}, {}), [], 0, 1))
            self.assertEqual(house.carried(), 0)
            self.assert_alike(house, plain_house(*sizes))

    def test_a_disk_on_which_signs_were_counted(self):
        written, at_a_side, emptied = Disk(3, 2), Disk(3, 2), Disk(3, 2)
        written.write(2, "x")
        at_a_side.put_side(1, "x")
        emptied.write(0, "x")
        emptied.empty(0)
        stopped = Disk(3, 2)
        stopped.stop(1)
        self.assert_refused(Stopped, stopped.write, 0, "xy")
        housed = House(Disk(3, 2)).disk()
        for disk in (written, at_a_side, emptied, stopped, stopped.copied(), housed, housed.copied()):
            ahead = seen(disk)
            self.assert_refused(NotBlank, House, disk)
            self.assertEqual(seen(disk), ahead)

    def test_a_disk_on_which_no_sign_was_counted(self):
        disk = Disk(3, 2)
        disk.empty(0)
        self.assertEqual(House(disk.copied()).disk().signs(), len(FIRST_MARK))
        disk.stop(0)
        self.assert_refused(Stopped, disk.write, 0, "x")
        # It has stopped, and is blank all the same.
        self.assert_refused(Stopped, House, disk)
        self.assertEqual(seen(disk), seen(Disk(3, 2)))
        House(disk.copied())

    def test_too_few_signs_left_for_its_mark(self):
        for many in range(len(FIRST_MARK)):
            disk = Disk(3, 2)
            disk.stop(many)
            self.assert_refused(Stopped, House, disk)
            self.assertEqual((disk.side(0), disk.side(1), disk.signs()), (FIRST_MARK[:many] or None, None, many))
            self.assert_refused(NoMark, house_of, disk.copied())
            self.assert_refused(NotBlank if many else Stopped, House, disk)
        disk = Disk(3, 2)
        disk.stop(len(FIRST_MARK))
        house = House(disk)
        self.assert_refused(Stopped, house.mark)

    def test_comes_up_without_a_mark(self):
        for disk in (Disk(3, 2), disk_of(3, 2, [["x"]], ["y", "z"])):
            ahead = seen(disk)
            self.assert_refused(NoMark, house_of, disk)
            self.assertEqual(seen(disk), ahead)

    def test_comes_up_with_the_disk_itself(self):
        disk = House(Disk(3, 4)).disk().copied()
        ahead = seen(disk)
        house = house_of(disk)
        self.assertIsInstance(house, House)
        self.assertIs(house.disk(), disk)
        self.assertEqual(seen(disk), ahead)
        house.put("a", [(0, "x")])
        self.assertEqual(disk.told(0, 0), row_text_of(("put", 0, 0, True, "a", 0, "x")))


class DeedsTest(HousesCase):

    def test_rows_word_for_word(self):
        house = House(Disk(6, 4))
        house.put("a", [(0, "x"), (1, "y"), (0, "z")])
        house.hold("old")
        house.cut("a", 1)
        house.free("old")
        house.mark()
        house.put("b", [(0, "q")])
        rows = [
            ("put", 0, 0, False, "a", 0, "x"), ("put", 1, 0, False, "a", 1, "y"), ("put", 2, 0, True, "a", 0, "z"),
            ("hold", 3, "old"), ("cut", 4, "a", 1), ("free", 5, "old"), ("put", 6, 6, True, "b", 0, "q")]
        disk = house.disk()
        texts = [disk.told(stretch, place) for stretch in (0, 1) for place in range(4)]
        self.assertEqual(texts, [row_text_of(row) for row in rows] + [None])
        self.assertEqual(disk.side(0), FIRST_MARK)
        self.assertTrue(disk.side(1).startswith("mark 1 6 1 a 1 2 0 1 2 0 2 "))
        self.assertEqual(house.state().spots(), [(2, 0, 2), (6, 1, 2)])
        self.assertEqual((house.read("a", 0), house.read("b", 0)), ("z", "q"))
        house.clean(0)
        self.assertEqual(disk.told(2, 0), row_text_of(("carry", 7, 2, "z")))
        self.assertEqual(disk.side(0)[:38], "mark 2 8 2 a 1 2 b 1 6 0 2 2 2 0 6 1 2")
        self.assertEqual([disk.next_place(stretch) for stretch in range(6)], [0, 3, 1, 0, 0, 0])
        self.assertEqual((house.read("a", 0), house.read("b", 0), house.carried()), ("z", "q", 1))

    def test_long_rows_of_deeds(self):
        sizes = ((3, 2), (3, 8), (4, 3), (5, 5), (8, 4), (16, 2), (16, 32), (9, 3), (3, 32))
        deeds = {}
        for seed, (stretches, places) in enumerate(sizes * 4):
            chance = random.Random(seed)
            house, plain = pair_of_houses(stretches, places)
            self.assert_alike(house, plain)
            for turn in range(30):
                deed = plain.some_deed(chance)
                self.lead(house, plain, deed)
                deeds[deed[0]] = deeds.get(deed[0], 0) + 1
        self.assertEqual(sorted(deeds), ["clean", "cut", "free", "hold", "mark", "put"])
        self.assertGreater(min(deeds.values()), 10)

    def test_from_the_beginning_while_all_rows_are_there(self):
        chance = random.Random(17)
        house, plain = pair_of_houses(16, 8)
        while plain.room() > 8:
            deed = plain.some_deed(chance)
            if deed[0] != "clean":
                self.lead(house, plain, deed)
                for ask in (risen, risen_all):
                    self.assertEqual(told_of(ask(house.disk())), plain.told())

    def test_houses_that_come_up_again_and_again(self):
        chance = random.Random(18)
        house, plain = pair_of_houses(7, 5)
        for turn in range(60):
            deed = plain.some_deed(chance)
            plain.carried = 0
            house = house_of(house.disk().copied())
            self.lead(house, plain, deed)

    def test_groups_of_one_to_eight_pairs(self):
        for many in range(1, 9):
            pairs = [(place, f"w{place}") for place in range(many)]
            house, plain = pair_of_houses(8, 3)
            self.lead(house, plain, ("put", "a", pairs))
            self.lead(house, plain, ("put", "a", [(0, word) for place, word in pairs]))
            self.assertEqual(house.read("a", 0), f"w{many - 1}")

    def test_pairs_as_lists_and_as_tuples(self):
        pairs = [(0, "x"), (1, "y"), (1, "z")]
        for outer in (list, tuple):
            for inner in (list, tuple):
                house, plain = pair_of_houses(4, 4)
                plain.do_deed(("put", "a", pairs))
                house.put("a", outer(inner(pair) for pair in pairs))
                self.assert_alike(house, plain)

    def test_what_is_handed_in_stays_and_may_be_changed_later(self):
        house, plain = pair_of_houses(4, 4)
        pairs = [[0, "x"], [1, "y"]]
        house.put("a", pairs)
        self.assertEqual(pairs, [[0, "x"], [1, "y"]])
        plain.do_deed(("put", "a", [(0, "x"), (1, "y")]))
        pairs[0][1] = "q"
        pairs[1][0] = 7
        del pairs[1]
        self.assert_alike(house, plain)
        self.assertEqual(house.read("a", 0), "x")

    def test_a_file_of_sixty_places_and_three_held_names(self):
        house, plain = pair_of_houses(16, 16)
        for first in range(0, 60, 6):
            self.lead(house, plain, ("put", "abcdef", [(place, "w" * 20) for place in range(first, first + 6)]))
            if first in (18, 36, 54):
                self.lead(house, plain, ("hold", "abc"[first // 18 - 1]))
        self.lead(house, plain, ("cut", "abcdef", 0))
        self.lead(house, plain, ("mark",))
        for stretch in (0, 1, 2):
            self.lead(house, plain, ("clean", stretch))
        self.assertEqual(house.carried(), 46)

    def test_two_hundred_texts(self):
        chance = random.Random(200)
        house, plain = pair_of_houses(12, 16)
        while plain.following < 190:
            deed = plain.some_deed(chance)
            do(house, deed)
            plain.do_deed(deed)
        self.assert_alike(house, plain)


class ReadTest(HousesCase):

    def setUp(self):
        self.house = House(Disk(5, 4))
        self.house.put("a", [(0, "x"), (1, "y")])
        self.house.hold("h")
        self.house.put("a", [(1, "z"), (2, "q")])
        self.house.put("b", [(0, "r")])
        self.house.cut("a", 2)

    def test_of_files_and_of_held_ones(self):
        self.assertEqual(words_of(self.house), ({"a": ["x", "z"], "b": ["r"]}, {"h": {"a": ["x", "y"]}}))
        for word in ("x", self.house.read("a", 0)):
            self.assertEqual(word, "x")

    def test_what_is_not_there(self):
        house = self.house
        ahead = seen(house.disk()), told_of(house.state())
        for file, place, error in (
                ("c", 0, NoFile), ("c", 9, NoFile), ("h", 0, NoFile), ("c", -1, NoFile), ("a", 2, NoPlace),
                ("a", -1, NoPlace), ("b", 1, NoPlace), ("a", 10 ** 17, NoPlace)):
            self.assert_refused(error, house.read, file, place)
        for name, file, place, error in (
                ("g", "a", 0, NotHeld), ("g", "c", 9, NotHeld), ("a", "a", 0, NotHeld), ("h", "b", 0, NoFile),
                ("h", "b", 9, NoFile), ("h", "a", 2, NoPlace), ("h", "a", -1, NoPlace)):
            self.assert_refused(error, house.read_held, name, file, place)
        self.assertEqual((seen(house.disk()), told_of(house.state())), ahead)

    def test_reading_counts_no_sign(self):
        signs = self.house.disk().signs()
        words_of(self.house)
        self.assertEqual(self.house.disk().signs(), signs)

    def test_what_was_cut_and_freed(self):
        self.house.cut("b", 0)
        self.house.free("h")
        self.assert_refused(NoFile, self.house.read, "b", 0)
        self.assert_refused(NotHeld, self.house.read_held, "h", "a", 0)
        self.assertEqual(words_of(self.house), ({"a": ["x", "z"]}, {}))


class OwnTest(HousesCase):

    def setUp(self):
        self.house, self.plain = pair_of_houses(5, 4)
        for deed in (("put", "a", [(0, "x"), (1, "y")]), ("hold", "h"), ("put", "b", [(0, "z")])):
            self.lead(self.house, self.plain, deed)

    def test_files_are_the_askers_own(self):
        files = self.house.files()
        files.put("a", 2, 9)
        files.cut("b", 0)
        files.free("h")
        self.assert_alike(self.house, self.plain)
        self.assertIsNot(self.house.files(), self.house.files())

    def test_the_state_is_the_askers_own(self):
        state = self.house.state()
        self.assertIsInstance(state, State)
        state.files().cut("a", 0)
        state.spots().clear()
        self.assert_alike(self.house, self.plain)

    def test_what_was_told_stays_behind_later_deeds(self):
        files, state = self.house.files(), self.house.state()
        told = self.plain.told()
        for deed in (("cut", "a", 0), ("put", "b", [(0, "q"), (1, "r")]), ("free", "h"), ("mark",), ("clean", 0)):
            self.lead(self.house, self.plain, deed)
        self.assertEqual(all_told(files), told[0])
        self.assertEqual(told_of(state), told)

    def test_two_houses_are_apart(self):
        other = house_of(self.house.disk().copied())
        told = seen(self.house.disk()), self.plain.told()
        other.cut("a", 0)
        other.mark()
        self.assertEqual((seen(self.house.disk()), told_of(self.house.state())), told)


class RefusedTest(HousesCase):

    def test_each_refusal(self):
        house = House(Disk(4, 3))
        house.put("a", [(0, "x"), (1, "y")])
        house.hold("h")
        for deed, error in (
                (("put", "a", [(3, "w")]), NoPlace), (("put", "a", [(-1, "w")]), NoPlace),
                (("put", "b", [(1, "w")]), NoPlace), (("put", "a", [(2, "w"), (4, "w")]), NoPlace),
                (("put", "b", [(0, "w"), (1, "w"), (3, "w")]), NoPlace), (("put", "b", [(0, "w"), (-1, "w")]), NoPlace),
                (("cut", "b", 0), NoFile), (("cut", "b", 5), NoFile), (("cut", "a", 3), NoPlace),
                (("hold", "h"), HeldAlready), (("free", "a"), NotHeld), (("free", "g"), NotHeld),
                (("clean", 0), NotClosed), (("clean", 1), NotClosed), (("clean", 4), NotClosed),
                (("clean", -1), NotClosed), (("clean", 10 ** 17), NotClosed)):
            self.assert_deed_refused(error, house, deed)
        # A later pair may stand behind what an earlier one put.
        house.put("b", [(0, "w"), (1, "w")])

    def test_files_refuse_ahead_of_the_room(self):
        house = House(Disk(3, 2))
        house.put("a", [(0, "x"), (0, "y")])
        house.hold("h")
        house.put("a", [(0, "z")])
        self.assertEqual(room(house.disk()), 0)
        for deed, error in (
                (("put", "a", [(0, "w")]), NoRoom), (("put", "a", [(2, "w")]), NoPlace),
                (("put", "a", [(0, "w"), (2, "w")]), NoPlace), (("put", "b", [(0, "w")] * 8), NoRoom),
                (("cut", "a", 1), NoRoom), (("cut", "a", 2), NoPlace), (("cut", "b", 1), NoFile),
                (("hold", "g"), NoRoom), (("hold", "h"), HeldAlready), (("free", "h"), NoRoom),
                (("free", "g"), NotHeld)):
            self.assert_deed_refused(error, house, deed)
        house.mark()
        house.clean(0)
        self.assertEqual(house.read("a", 0), "z")

    def test_deeds_by_chance(self):
        refused = {}
        for seed in range(60):
            chance = random.Random(seed)
            stretches = chance.randint(3, 6)
            house, plain = pair_of_houses(stretches, chance.randint(2, 4))
            for turn in range(40):
                deed = any_deed(chance, stretches) if chance.random() < 0.7 else plain.some_deed(chance)
                error = plain.refusal(deed)
                if error is None:
                    self.lead(house, plain, deed)
                else:
                    self.assert_deed_refused(error, house, deed)
                    self.assert_alike(house, plain)
                    refused[error.__name__, deed[0]] = refused.get((error.__name__, deed[0]), 0) + 1
        self.assertEqual(sorted(refused), [
            ("HeldAlready", "hold"), ("NoFile", "cut"), ("NoPlace", "cut"), ("NoPlace", "put"), ("NoRoom", "cut"),
            ("NoRoom", "free"), ("NoRoom", "hold"), ("NoRoom", "put"), ("NotClosed", "clean"), ("NotHeld", "free")])

    def test_room_to_the_last_row(self):
        for seed in range(60):
            chance = random.Random(seed)
            house, plain = pair_of_houses(chance.randint(3, 7), chance.randint(2, 6))
            for turn in range(chance.randrange(15)):
                self.lead(house, plain, plain.some_deed(chance))
            many = room(house.disk())
            self.assertEqual(many, plain.room())
            if many < 8:
                self.assert_deed_refused(NoRoom, house, ("put", "new", [(0, "w")] * (many + 1)))
            for left in range(many, 0, -1):
                self.assertEqual(room(house.disk()), left)
                self.lead(house, plain, ("put", "new", [(0, f"w{left}")]))
            self.assertEqual(room(house.disk()), 0)
            for deed in (("put", "new", [(0, "w")]), ("hold", "newer")):
                self.assert_deed_refused(NoRoom, house, deed)
            self.assert_alike(house, plain)

    def test_a_group_that_needs_the_whole_room(self):
        for many in range(1, 9):
            house, plain = pair_of_houses(4, 4)
            while plain.room() > many:
                self.lead(house, plain, ("put", "a", [(0, "x")]))
            self.assert_deed_refused(NoRoom, house, ("put", "b", [(0, "x")] * (many + 1)))
            self.lead(house, plain, ("put", "b", [(0, "x")] * many))


class CleanTest(HousesCase):

    def test_what_lives_is_carried_by_places(self):
        house, plain = pair_of_houses(6, 4)
        for deed in (
                ("put", "b", [(0, "p"), (1, "q"), (2, "r")]), ("hold", "h"), ("put", "b", [(1, "s"), (0, "t")]),
                ("cut", "b", 2), ("put", "a", [(0, "u")]), ("put", "a", [(0, "v")])):
            self.lead(house, plain, deed)
        self.assertEqual(plain.closed(), [0, 1])
        self.lead(house, plain, ("clean", 0))
        texts = [house.disk().told(3, place) for place in range(4)]
        rows = [("carry", 9, 0, "p"), ("carry", 10, 1, "q"), ("carry", 11, 2, "r")]
        self.assertEqual(texts, [row_text_of(row) for row in rows] + [None])
        self.assertEqual(house.carried(), 3)
        self.lead(house, plain, ("clean", 1))
        # The cold end is full behind one more, and what was emptied is the empty stretch of the least number.
        self.assertEqual(house.disk().told(3, 3), row_text_of(("carry", 12, 4, "s")))
        self.assertEqual(house.disk().told(0, 0), row_text_of(("carry", 13, 5, "t")))
        self.assertEqual(house.carried(), 5)

    def test_what_was_carried_is_carried_again(self):
        house, plain = pair_of_houses(6, 2)
        self.lead(house, plain, ("put", "a", [(0, "old"), (1, "older")]))
        spots, due = set(), 0
        for turn in range(30):
            if plain.room():
                self.lead(house, plain, ("put", "b", [(turn % 3 % (len(plain.table.get("b", [])) + 1), f"w{turn}")]))
            stretch = plain.spots[0][0]
            if stretch in plain.cleanable():
                due += len(plain.living_in(stretch))
                self.lead(house, plain, ("clean", stretch))
            elif plain.cleanable():
                due += len(plain.living_in(plain.cleanable()[0]))
                self.lead(house, plain, ("clean", plain.cleanable()[0]))
            spots.add(house.state().spot(0))
            self.assertEqual(house.carried(), due)
            self.assertEqual((house.read("a", 0), house.read("a", 1)), ("old", "older"))
        self.assertGreater(len(spots), 3)

    def test_nothing_lives(self):
        house, plain = pair_of_houses(3, 2)
        self.lead(house, plain, ("put", "a", [(0, "x"), (0, "y"), (0, "z")]))
        signs = house.disk().signs()
        self.lead(house, plain, ("clean", 0))
        self.assertEqual(house.carried(), 0)
        # A mark, and two places that were emptied; no row.
        self.assertEqual(house.disk().signs(), signs + len(house.disk().side(1)) + 2)
        self.assertEqual(house.state().next_number(), 3)

    def test_no_room_behind_a_stop(self):
        for many, living in ((3, 2), (20, 1)):
            # The stop is amid the first carried row, or the second: the last empty stretch is taken by it.
            house, plain = pair_of_houses(3, 2)
            self.lead(house, plain, ("put", "a", [(0, "x"), (1, "y"), (2, "z")]))
            for one in (house.disk(), plain.disk):
                one.stop(many)
            self.assert_refused(Stopped, house.clean, 0)
            self.assert_refused(Stopped, plain.clean, 0)
            plain.go_on()
            plain.carried = 0
            house = house_of(house.disk().copied())
            self.assertEqual((plain.empties(), len(plain.living_in(0))), ([], living))
            self.assert_deed_refused(NoRoom, house, ("clean", 0))
            self.assert_alike(house, plain)
        # Where less lives it goes on.
        self.lead(house, plain, ("put", "a", [(1, "q")]))
        self.lead(house, plain, ("clean", 0))

    def test_no_room_just_where_more_lives(self):
        met = {}
        for seed in range(400):
            chance = random.Random(seed)
            plain = plain_house(chance.randint(3, 5), chance.randint(2, 4))
            for turn in range(chance.randint(5, 25)):
                plain.walk(chance, 0.5, 90)
            plain.go_on()
            free = plain.free_places(False) + plain.disk.places() * len(plain.empties())
            for stretch in plain.closed():
                many = len(plain.living_in(stretch))
                house = house_of(plain.disk.copied())
                met[(many > free) - (many < free)] = met.get((many > free) - (many < free), 0) + 1
                if many > free:
                    self.assert_deed_refused(NoRoom, house, ("clean", stretch))
                else:
                    house.clean(stretch)
                    self.assertEqual(words_of(house), plain.all_words())
                    self.assertEqual(house.carried(), many)
                    self.assertEqual(house.disk().next_place(stretch), 0)
        self.assertGreater(min(met.get(way, 0) for way in (-1, 0, 1)), 4)

    def test_ends_empty_ones_and_none(self):
        house, plain = pair_of_houses(6, 2)
        for deed in (("put", "a", [(0, "x"), (1, "y"), (2, "z")]), ("clean", 0)):
            self.lead(house, plain, deed)
        # Stretch 1 is the hot end, 2 the cold one.
        for stretch in (-1, 0, 1, 2, 3, 4, 5, 6, 7):
            self.assert_deed_refused(NotClosed, house, ("clean", stretch))

    def test_a_stretch_without_a_whole_row(self):
        house, plain = pair_of_houses(4, 2)
        self.lead(house, plain, ("put", "a", [(0, "x"), (1, "y")]))
        for one in (house.disk(), plain.disk):
            one.stop(4)
        self.assert_refused(Stopped, house.put, "a", [(0, "z")])
        self.assert_refused(Stopped, plain.put, "a", [(0, "z")])
        plain.go_on()
        house = house_of(house.disk().copied())
        self.assert_alike(house, plain)
        self.assertEqual(plain.closed(), [1])
        self.lead(house, plain, ("clean", 1))
        self.assertEqual(plain.empties(), [1, 2, 3])


class StoppedTest(HousesCase):

    LEADING = (
        ("put", "a", [(0, "x"), (1, "y")]), ("hold", "h"), ("put", "a", [(1, "z")]), ("put", "b", [(0, "q")]),
        ("put", "a", [(0, "r")]))
    DEEDS = (
        ("put", "a", [(1, "s")]), ("put", "c", [(place, f"w{place}") for place in range(8)]), ("cut", "a", 1),
        ("hold", "i"), ("free", "h"), ("mark",), ("clean", 0), ("clean", 1))
    AFTER = (
        ("put", "a", [(0, "x")]), ("put", "a", [(9, "x")]), ("put", "c", [(0, "x")] * 8), ("cut", "a", 0),
        ("cut", "no", 0), ("cut", "a", 99), ("hold", "h"), ("hold", "k"), ("free", "h"), ("free", "no"), ("mark",),
        ("clean", 0), ("clean", 3), ("clean", 99))

    def led(self):
        house, plain = pair_of_houses(16, 2)
        for deed in self.LEADING:
            self.lead(house, plain, deed)
        return house, plain

    def assert_of_no_use(self, house):
        ahead = seen(house.disk())
        for deed in self.AFTER:
            self.assert_refused(Stopped, do, house, deed)
        self.assertEqual(seen(house.disk()), ahead)

    def assert_comes_up(self, house, plain):
        """That a house comes up as the test's own goes on, both with a copy of their disks; the house is told."""
        plain.go_on()
        plain.carried = 0
        other = house_of(house.disk().copied())
        self.assert_alike(other, plain)
        return other

    def test_a_stop_at_each_sign_of_each_deed(self):
        for deed in self.DEEDS:
            needed = signs_of(self.led()[0], deed)
            self.assertGreater(needed, 8)
            for many in range(needed):
                house, plain = self.led()
                disk = house.disk()
                ahead = disk.signs()
                for one in (disk, plain.disk):
                    one.stop(many)
                self.assert_refused(Stopped, do, house, deed)
                self.assertIs(house.disk(), disk)
                self.assertEqual(disk.signs(), ahead + many)
                self.assert_refused(Stopped, plain.do_deed, deed)
                self.assertEqual(seen(disk), seen(plain.disk))
                self.assert_of_no_use(house)
                told = plain.all_words(), plain.told()[0]
                other = self.assert_comes_up(house, plain)
                self.assertEqual((words_of(other), all_told(other.files())), told)
                # It goes on, and may do the same again.
                if plain.refusal(deed) is None:
                    self.lead(other, plain, deed)
                self.lead(other, plain, ("put", "go", [(0, "on")]))

    def test_just_enough_signs(self):
        for deed in self.DEEDS:
            house, plain = self.led()
            house.disk().stop(signs_of(house, deed))
            self.lead(house, plain, deed)
            self.assert_refused(Stopped, house.mark)
            self.assert_of_no_use(house)

    def test_files_are_as_ahead_of_the_deed(self):
        house, plain = self.led()
        due = plain.all_words(), plain.told()[0]
        house.disk().stop(40)
        self.assert_refused(Stopped, house.put, "a", [(place, "new") for place in range(8)])
        other = house_of(house.disk().copied())
        self.assertEqual((words_of(other), all_told(other.files())), due)

    def test_an_emptying_that_stopped_in_part_is_done_again(self):
        for places in (2, 3, 6):
            for many in range(places):
                house, plain = pair_of_houses(4, places)
                for turn in range(places + 1):
                    self.lead(house, plain, ("put", "a", [(0, f"w{turn}")]))
                # Nothing lives in the stretch: all signs but the emptied places are the mark's.
                mark = signs_of(house, ("clean", 0)) - places
                for one in (house.disk(), plain.disk):
                    one.stop(mark + many)
                self.assert_refused(Stopped, house.clean, 0)
                self.assert_refused(Stopped, plain.clean, 0)
                other = self.assert_comes_up(house, plain)
                self.assertEqual(other.disk().next_place(0), places)
                self.assertEqual([other.disk().told(0, place) is None for place in range(places)],
                                 [place < many for place in range(places)])
                self.assertEqual(plain.closed(), [0])
                self.lead(other, plain, ("clean", 0))
                self.assertEqual(other.disk().next_place(0), 0)

    def test_several_stops_one_after_another(self):
        stops = refused = 0
        for seed in range(50):
            chance = random.Random(seed)
            house, plain = pair_of_houses(chance.randint(3, 8), chance.randint(2, 6))
            for turn in range(30):
                deed = plain.some_deed(chance) if chance.random() < 0.9 else any_deed(chance, 8)
                if chance.random() < 0.5:
                    many = chance.randrange(chance.choice((5, 40, 200)))
                    for one in (house.disk(), plain.disk):
                        one.stop(many)
                error = plain.refusal(deed)
                if error is not None:
                    # What files and the room refuse goes ahead of a stop.
                    self.assert_deed_refused(error, house, deed)
                    refused += 1
                    continue
                try:
                    plain.do_deed(deed)
                except Stopped:
                    stops += 1
                    self.assert_refused(Stopped, do, house, deed)
                    self.assertEqual(seen(house.disk()), seen(plain.disk))
                    self.assert_of_no_use(house)
                    house = self.assert_comes_up(house, plain)
                else:
                    do(house, deed)
                    self.assert_alike(house, plain)
        self.assertGreater(stops, 200)
        self.assertGreater(refused, 20)

    def test_a_stop_without_a_sign_left(self):
        house, plain = self.led()
        house.disk().stop(0)
        self.assert_deed_refused(NoPlace, house, ("put", "a", [(9, "x")]))
        self.assert_refused(Stopped, house.hold, "i")
        self.assert_of_no_use(house)
        self.assert_alike(house_of(house.disk().copied()), plain)

    def test_a_stop_told_later_is_of_no_help(self):
        house, plain = self.led()
        house.disk().stop(3)
        self.assert_refused(Stopped, house.hold, "i")
        house.disk().stop(1000)
        self.assert_of_no_use(house)


if __name__ == "__main__":
    unittest.main()

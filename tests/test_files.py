"""cleanrows.files: points 10 and 11, and of 2 and 3 what speaks of files."""

import random
import unittest

from cleanrows.errors import CleanError, HeldAlready, NoFile, NoPlace, NotHeld
from cleanrows.files import Files
from model import GREATEST, SAMPLES, all_due, all_told, files_of

NAMES = ("a", "b", "ab", "ba", "zzzzzz")


class FilesCase(unittest.TestCase):

    def assert_tells(self, files, table, held):
        self.assertEqual(all_told(files), all_due(table, held))

    def assert_refuses(self, refusal, files, deed, *given):
        """Refused with just this, and nothing changed."""
        ahead = all_told(files)
        with self.assertRaises(CleanError) as caught:
            getattr(files, deed)(*given)
        self.assertIs(caught.exception.__class__, refusal, (deed, given))
        self.assertEqual(all_told(files), ahead)


class FirstTest(FilesCase):

    def test_at_first_there_is_nothing(self):
        files = Files()
        self.assertEqual(files.names(), [])
        self.assertEqual(files.held(), [])
        self.assertEqual(files.living(), [])
        self.assertEqual(files.many("a"), 0)
        self.assert_refuses(NoFile, files, "birth", "a", 0)
        self.assert_refuses(NoFile, files, "cut", "a", 0)
        self.assert_refuses(NotHeld, files, "free", "a")
        self.assert_refuses(NotHeld, files, "of_held", "a")

    def test_files_begin_apart(self):
        Files().put("a", 0, 1)
        other = Files()
        other.hold("h")
        self.assert_tells(Files(), {}, {})


class PutTest(FilesCase):

    def test_put_at_the_first_place_behind(self):
        files = Files()
        self.assertIsNone(files.put("b", 0, 5))
        self.assert_tells(files, {"b": [5]}, {})
        files.put("b", 1, 3)
        files.put("a", 0, 4)
        files.put("b", 2, 9)
        self.assert_tells(files, {"a": [4], "b": [5, 3, 9]}, {})
        self.assertEqual(files.names(), ["a", "b"])
        self.assertEqual((files.many("a"), files.many("b"), files.many("c")), (1, 3, 0))
        self.assertEqual([files.birth("b", place) for place in range(3)], [5, 3, 9])

    def test_put_at_a_place_that_there_is(self):
        for place in range(3):
            files = files_of({"a": [1, 2, 3], "b": [4]}, {})
            self.assertIsNone(files.put("a", place, 8))
            due = [1, 2, 3]
            due[place] = 8
            self.assert_tells(files, {"a": due, "b": [4]}, {})

    def test_put_elsewhere_is_refused(self):
        files = files_of({"a": [1, 2]}, {})
        for place in (3, 4, 100, GREATEST, -1, -2, -3, -GREATEST):
            self.assert_refuses(NoPlace, files, "put", "a", place, 7)
        for place in (1, 2, GREATEST, -1, -GREATEST):
            self.assert_refuses(NoPlace, files, "put", "b", place, 7)
            self.assert_refuses(NoPlace, Files(), "put", "a", place, 7)
        files.put("a", 2, 7)
        files.put("b", 0, 7)
        self.assert_tells(files, {"a": [1, 2, 7], "b": [7]}, {})

    def test_a_birth_is_told_of_places_that_there_are(self):
        files = files_of({"a": [6, 7]}, {"h": {"b": [1]}})
        self.assertEqual(files.birth("a", 0), 6)
        self.assertEqual(files.birth("a", 1), 7)
        for place in (2, 3, GREATEST, -1, -2, -3):
            self.assert_refuses(NoPlace, files, "birth", "a", place)
        for place in (0, 1, -1, GREATEST):
            self.assert_refuses(NoFile, files, "birth", "b", place)

    def test_a_truth_is_no_place(self):
        files = files_of({"a": [6, 7]}, {})
        for truth in (False, True):
            self.assert_refuses(NoPlace, files, "put", "a", truth, 1)
            self.assert_refuses(NoPlace, files, "birth", "a", truth)
            self.assert_refuses(NoPlace, files, "cut", "a", truth)
            self.assert_refuses(NoFile, files, "cut", "b", truth)


class CutTest(FilesCase):

    def test_cut_to_each_number_of_places(self):
        for many in range(1, 4):
            files = files_of({"a": [5, 5, 6], "b": [2]}, {})
            self.assertIsNone(files.cut("a", many))
            self.assert_tells(files, {"a": [5, 5, 6][:many], "b": [2]}, {})

    def test_cut_to_none_it_is_no_file(self):
        files = files_of({"a": [5, 5, 6], "b": [2]}, {})
        self.assertIsNone(files.cut("a", 0))
        self.assert_tells(files, {"b": [2]}, {})
        self.assertEqual(files.many("a"), 0)
        self.assert_refuses(NoFile, files, "cut", "a", 0)
        self.assert_refuses(NoFile, files, "birth", "a", 0)
        self.assert_refuses(NoPlace, files, "put", "a", 1, 3)
        files.put("a", 0, 3)
        self.assert_tells(files, {"a": [3], "b": [2]}, {})

    def test_cut_to_more_is_refused(self):
        files = files_of({"a": [5, 6], "b": [2]}, {})
        for many in (3, 4, GREATEST):
            self.assert_refuses(NoPlace, files, "cut", "a", many)
        # The document tells nothing of these but that there are no such places.
        for many in (-1, -2, -GREATEST):
            self.assert_refuses(NoPlace, files, "cut", "a", many)

    def test_no_file_goes_ahead_of_no_place(self):
        files = files_of({"a": [5, 6]}, {"h": {"b": [5, 6]}})
        for many in (0, 1, 3, GREATEST):
            self.assert_refuses(NoFile, files, "cut", "b", many)

    def test_a_cut_place_is_put_anew(self):
        files = files_of({"a": [5, 6, 7]}, {})
        files.cut("a", 1)
        self.assert_refuses(NoPlace, files, "put", "a", 2, 8)
        files.put("a", 1, 8)
        self.assert_tells(files, {"a": [5, 8]}, {})


class HeldTest(FilesCase):

    def test_held_are_all_files_as_they_are_then(self):
        files = files_of({"a": [1, 2], "b": [3]}, {})
        self.assertIsNone(files.hold("h"))
        files.put("a", 1, 4)
        files.put("c", 0, 5)
        files.cut("b", 0)
        self.assert_tells(files, {"a": [1, 4], "c": [5]}, {"h": {"a": [1, 2], "b": [3]}})
        self.assertEqual(files.living(), [1, 2, 3, 4, 5])

    def test_held_names_are_told_in_order(self):
        files = Files()
        for name in ("b", "zz", "ab", "a"):
            files.hold(name)
        self.assertEqual(files.held(), ["a", "ab", "b", "zz"])

    def test_what_is_held_is_not_held_with_it(self):
        files = files_of({"a": [1]}, {})
        files.hold("g")
        files.hold("h")
        self.assertEqual(files.of_held("h").held(), [])
        self.assertEqual(files.of_held("g").held(), [])
        self.assertEqual(files.of_held("h").living(), [1])

    def test_a_name_that_is_held_is_refused(self):
        files = files_of({"a": [1]}, {})
        files.hold("h")
        files.put("a", 0, 2)
        self.assert_refuses(HeldAlready, files, "hold", "h")
        self.assert_tells(files, {"a": [2]}, {"h": {"a": [1]}})

    def test_freed_it_is_held_no_more(self):
        files = files_of({"a": [1]}, {"g": {"b": [2]}, "h": {"a": [1, 3]}})
        self.assertIsNone(files.free("h"))
        self.assert_tells(files, {"a": [1]}, {"g": {"b": [2]}})
        self.assertEqual(files.living(), [1, 2])
        self.assert_refuses(NotHeld, files, "free", "h")
        self.assert_refuses(NotHeld, files, "of_held", "h")
        files.hold("h")
        self.assert_tells(files, {"a": [1]}, {"g": {"b": [2]}, "h": {"a": [1]}})

    def test_a_file_is_no_held_name(self):
        files = files_of({"a": [1]}, {"h": {"a": [1]}})
        self.assert_refuses(NotHeld, files, "free", "a")
        self.assert_refuses(NotHeld, files, "of_held", "a")
        self.assert_refuses(NoFile, files, "cut", "h", 0)
        files.hold("a")
        files.put("h", 0, 9)
        self.assert_tells(files, {"a": [1], "h": [9]}, {"a": {"a": [1]}, "h": {"a": [1]}})

    def test_nothing_can_be_held(self):
        files = Files()
        files.hold("h")
        files.put("a", 0, 1)
        self.assert_tells(files, {"a": [1]}, {"h": {}})


class LivingTest(FilesCase):

    def test_rising_each_once(self):
        files = files_of({"a": [9, 10, 9], "b": [100, 2]}, {"h": {"b": [10, 1]}, "g": {"a": [1, 11]}})
        self.assertEqual(files.living(), [1, 2, 9, 10, 11, 100])

    def test_a_birth_lives_as_long_as_it_stands_somewhere(self):
        files = files_of({"a": [1], "b": [1]}, {})
        files.hold("h")
        files.put("a", 0, 2)
        files.cut("b", 0)
        self.assertEqual(files.living(), [1, 2])
        files.free("h")
        self.assertEqual(files.living(), [2])

    def test_samples(self):
        for table, held in SAMPLES:
            self.assert_tells(files_of(table, held), table, held)


class ApartTest(FilesCase):

    def deeds(self, files):
        """Deeds of each sort, on files that have a file a of two places at least and hold h."""
        yield lambda: files.put("a", 0, 77)
        yield lambda: files.put("new", 0, 78)
        yield lambda: files.cut("a", 1)
        yield lambda: files.cut("a", 0)
        yield lambda: files.hold("now")
        yield lambda: files.free("h")

    def test_a_copy_is_apart_both_ways(self):
        table, held = {"a": [1, 2], "b": [3]}, {"h": {"a": [1]}, "g": {"b": [4, 5]}}
        for is_copy_changed in (False, True):
            files = files_of(table, held)
            copy = files.copied()
            self.assertIsInstance(copy, Files)
            self.assert_tells(copy, table, held)
            changed, other = (copy, files) if is_copy_changed else (files, copy)
            for deed in self.deeds(changed):
                deed()
                self.assert_tells(other, table, held)
            self.assert_tells(changed, {"b": [3], "new": [78]}, {"g": {"b": [4, 5]}, "now": {"b": [3], "new": [78]}})

    def test_copies_of_copies(self):
        first = files_of({"a": [1, 2]}, {"h": {"a": [1]}})
        second = first.copied()
        third = second.copied()
        second.put("a", 0, 9)
        second.free("h")
        second.hold("h")
        third.cut("a", 1)
        self.assert_tells(first, {"a": [1, 2]}, {"h": {"a": [1]}})
        self.assert_tells(second, {"a": [9, 2]}, {"h": {"a": [9, 2]}})
        self.assert_tells(third, {"a": [1]}, {"h": {"a": [1]}})

    def test_files_of_a_held_name_are_apart_both_ways(self):
        table, held = {"a": [1, 2], "b": [3]}, {"h": {"a": [1, 6], "c": [4]}}
        files = files_of(table, held)
        told = files.of_held("h")
        self.assertIsInstance(told, Files)
        self.assert_tells(told, held["h"], {})
        told.hold("h")
        for deed in self.deeds(told):
            deed()
            self.assert_tells(files, table, held)
        again = files.of_held("h")
        for deed in self.deeds(files):
            deed()
            self.assert_tells(again, held["h"], {})
        self.assert_tells(told, {"c": [4], "new": [78]}, {"now": {"c": [4], "new": [78]}})

    def test_what_is_told_is_its_askers_own(self):
        table, held = {"a": [1, 2], "b": [3]}, {"h": {"a": [1]}}
        files = files_of(table, held)
        for told in (files.names(), files.held(), files.living()):
            self.assertIsInstance(told, list)
            told.append("other")
            told.reverse()
            told.clear()
            self.assert_tells(files, table, held)

    def test_asked_again_the_same_is_told(self):
        for table, held in SAMPLES:
            files = files_of(table, held)
            self.assertEqual(all_told(files), all_told(files))


class LimitsTest(FilesCase):

    def test_files_of_two_hundred_places_and_four_held_names(self):
        files = Files()
        for place in range(200):
            files.put("abcdef", place, GREATEST - place)
        for name in ("a", "b", "c", "zzzzzz"):
            files.hold(name)
        due = [GREATEST - place for place in range(200)]
        self.assert_tells(files, {"abcdef": due}, {name: {"abcdef": due} for name in ("a", "b", "c", "zzzzzz")})
        self.assert_refuses(NoPlace, files, "put", "abcdef", 201, 0)
        self.assert_refuses(NoPlace, files, "cut", "abcdef", 201)
        files.cut("abcdef", 200)
        files.put("abcdef", 199, 0)
        files.cut("abcdef", 0)
        self.assertEqual(files.living(), sorted(due))

    def test_many_files(self):
        names = [one + two for one in "abcdefghij" for two in "jihgfedcba"]
        files = Files()
        for at, name in enumerate(names):
            files.put(name, 0, at)
        files.hold("h")
        self.assertEqual(files.names(), sorted(names))
        self.assert_tells(files, {name: [at] for at, name in enumerate(names)},
                          {"h": {name: [at] for at, name in enumerate(names)}})


class LongRowsTest(FilesCase):
    """Long rows of deeds, also refused ones, beside a plain table."""

    def due_refusal(self, table, held, deed, given):
        """The refusal that is due, or None, and then the deed is done to the table."""
        if deed == "put":
            file, place, birth = given
            births = table.get(file, [])
            if not 0 <= place <= len(births):
                return NoPlace
            table[file] = births[:place] + [birth] + births[place + 1:]
        elif deed == "cut":
            file, many = given
            if file not in table:
                return NoFile
            if many > len(table[file]):
                return NoPlace
            table[file] = table[file][:many]
            if not table[file]:
                del table[file]
        elif deed == "hold":
            if given[0] in held:
                return HeldAlready
            held[given[0]] = {file: list(births) for file, births in table.items()}
        elif given[0] not in held:
            return NotHeld
        else:
            del held[given[0]]
        return None

    def chosen(self, chance, table, held, births):
        deed = chance.choice(("put", "put", "put", "put", "cut", "hold", "free"))
        file = chance.choice(NAMES)
        many = len(table.get(file, []))
        if deed == "put":
            return deed, (file, chance.randint(-2, many + 2) if chance.random() < 0.4 else many, chance.choice(births))
        if deed == "cut":
            return deed, (file, chance.randint(0, many + 2))
        if deed == "hold" and len(held) == 4:
            return deed, (chance.choice(sorted(held)),)
        return deed, (file,)

    def run_row(self, seed, births):
        chance = random.Random(seed)
        table, held, files, refused = {}, {}, Files(), 0
        for turn in range(300):
            deed, given = self.chosen(chance, table, held, births)
            refusal = self.due_refusal(table, held, deed, given)
            if refusal is None:
                self.assertIsNone(getattr(files, deed)(*given))
            else:
                refused += 1
                self.assert_refuses(refusal, files, deed, *given)
            self.assert_tells(files, table, held)
            self.check_bounds(files, table, held)
        self.assertGreater(refused, 30)

    def check_bounds(self, files, table, held):
        for name in NAMES:
            many = len(table.get(name, []))
            self.assertEqual(files.many(name), many)
            for place in (-1, many, many + 1):
                self.assert_refuses(NoPlace if many else NoFile, files, "birth", name, place)
            if name not in held:
                self.assert_refuses(NotHeld, files, "of_held", name)

    def test_births_that_are_small(self):
        self.run_row(1, range(100))

    def test_births_that_are_alike(self):
        self.run_row(2, (0, 1, 2))

    def test_births_of_eighteen_figures(self):
        self.run_row(3, [GREATEST, GREATEST - 1, 10 ** 17, 10 ** 17 + 1, 0])

    def test_births_that_rise(self):
        self.run_row(4, range(10 ** 17, 10 ** 17 + 5000))


if __name__ == "__main__":
    unittest.main()

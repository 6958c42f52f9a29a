"""cleanrows.risings: points 16 and 17, and of 2, 3 and 4 what speaks of coming up."""

import random
import unittest

from cleanrows.disks import Disk
from cleanrows.errors import CleanError, Gone, NoMark, Stopped
from cleanrows.risings import risen, risen_all
from cleanrows.states import State
from model import (
    GREATEST, NAMES, PlainHouse, all_due, disk_of, due_behind, mark_body, row_text_of, sealed, seen, some_pairs,
    stopped_in, told_of)

FIRST = ({}, {}, [], 0, 0)
FIRST_MARK = "mark 0 0 0 0 0 5393;"


def mark_of(table, held, spots, next_number, mark_number):
    return sealed(mark_body(table, held, spots, next_number, mark_number))


def empty_mark(number, following=0):
    return mark_of({}, {}, [], following, number)


def put(number, first, end, place, file="a"):
    return ("put", number, first, end, file, place, f"w{number}")


def group(first, many, file="a", place=0):
    """A whole group of so many rows, at places of a file one behind the other."""
    return [put(first + at, first, at == many - 1, place + at, file) for at in range(many)]


def spread(rows, stretches=4, places=32):
    """Rows spread over stretches, the hot and the cold ones apart, in the order in which they come."""
    texts = [[] for stretch in range(stretches)]
    for row in rows:
        own = range(stretches // 2) if row[0] != "carry" else range(stretches // 2, stretches)
        stretch = next(stretch for stretch in own if len(texts[stretch]) < places)
        texts[stretch].append(row)
    return texts


def placed_of(texts):
    return [(row, stretch, place) for stretch, part in enumerate(texts) for place, row in enumerate(part)]


def due_from_the_beginning(texts, mark_number=1):
    return due_behind(({}, {}, [], 0, mark_number), placed_of(texts))


class RisingsCase(unittest.TestCase):

    def assert_refused(self, error, ask, disk):
        ahead = seen(disk)
        with self.assertRaises(CleanError) as caught:
            ask(disk)
        self.assertIs(caught.exception.__class__, error)
        self.assertEqual(seen(disk), ahead)

    def assert_told(self, ask, disk, due):
        ahead = seen(disk)
        state = ask(disk)
        self.assertIsInstance(state, State)
        self.assertEqual(told_of(state), due)
        self.assertEqual(told_of(ask(disk)), due)
        self.assertEqual(seen(disk), ahead)

    def assert_rises(self, rows, marked=FIRST, table=None, held=None):
        """That rows behind a mark lead to what the test counts, and to such a table and such tables held."""
        texts = spread(rows)
        side = marked[4] % 2
        sides = [None, None]
        sides[side] = mark_of(*marked)
        disk = disk_of(4, 32, texts, sides)
        due = due_behind((*marked[:4], marked[4] + 1), placed_of(texts))
        self.assert_told(risen, disk, due)
        if table is not None:
            self.assertEqual(due[0], all_due(table, held or {}))
        return due


class MarksTest(RisingsCase):

    def test_no_mark(self):
        for sides in ((), ("x", None), (None, "x"), ("x", "y"), (FIRST_MARK[:-1], FIRST_MARK + ";"),
                      (row_text_of(("cut", 0, "a", 0)), FIRST_MARK[1:])):
            for texts in ([], [group(0, 3)]):
                for ask in (risen, risen_all):
                    self.assert_refused(NoMark, ask, disk_of(3, 4, texts, sides))

    def test_no_mark_goes_ahead_of_gone(self):
        disk = disk_of(3, 4, [group(5, 3)])
        self.assert_refused(NoMark, risen_all, disk)
        disk.put_side(0, FIRST_MARK)
        self.assert_refused(Gone, risen_all, disk)

    def test_a_mark_in_a_stretch_is_none(self):
        for ask in (risen, risen_all):
            self.assert_refused(NoMark, ask, disk_of(3, 4, [[FIRST_MARK], [FIRST_MARK]]))

    def test_at_one_side(self):
        for number, sides in ((0, (empty_mark(0), None)), (1, (None, empty_mark(1))), (7, (None, empty_mark(7)))):
            for ask in (risen, risen_all):
                self.assert_told(ask, disk_of(3, 2, [], sides), (all_due({}, {}), [], 0, number + 1))

    def test_at_both_sides_the_greater_number(self):
        for number in (0, 1, 8, 9, 98, 99, GREATEST - 1):
            for marks in ((number, number + 1), (number + 1, number)):
                sides = [empty_mark(one, one) for one in marks]
                self.assert_told(risen, disk_of(3, 2, [], sides), (all_due({}, {}), [], number + 1, number + 2))

    def test_a_torn_mark_beside_a_whole_one(self):
        older, newer = mark_of({"a": [3]}, {}, [(3, 1, 2)], 4, 4), mark_of({"b": [4]}, {}, [(4, 2, 0)], 5, 5)
        due = all_due({"a": [3]}, {}), [(3, 1, 2)], 4, 5
        self.assert_told(risen, disk_of(4, 4, [], (older, newer)), (all_due({"b": [4]}, {}), [(4, 2, 0)], 5, 6))
        for many in range(len(newer)):
            disk = stopped_in(disk_of(4, 4, [], (older, empty_mark(3))), many, "put_side", 1, newer)
            self.assert_told(risen, disk, due)
        for many in range(1, len(older)):
            disk = disk_of(4, 4, [], (older[:many], newer))
            self.assert_told(risen, disk, (all_due({"b": [4]}, {}), [(4, 2, 0)], 5, 6))

    def test_both_torn(self):
        for many in range(1, len(FIRST_MARK)):
            self.assert_refused(NoMark, risen, disk_of(3, 2, [], (FIRST_MARK[:many], FIRST_MARK[:-many])))

    def test_the_mark_alone(self):
        table, held = {"a": [3, 9], "b": [4]}, {"h": {"c": [1]}, "i": {}}
        spots = [(1, 0, 1), (3, 2, 0), (4, 3, 31), (9, 3, 30)]
        due = self.assert_rises([], (table, held, spots, 12, 5), table, held)
        self.assertEqual(due, (all_due(table, held), spots, 12, 6))


class RowsTest(RisingsCase):

    def test_each_kind_alone(self):
        self.assert_rises(group(0, 1), FIRST, {"a": [0]})
        self.assert_rises([("hold", 0, "h")], FIRST, {}, {"h": {}})
        self.assert_rises([("carry", 0, 5, "w")], FIRST, {})
        marked = {"a": [1, 2, 3]}, {"h": {"b": [0]}}, [(0, 0, 0), (1, 0, 1), (2, 3, 2), (3, 3, 3)], 9, 1
        self.assert_rises([("cut", 9, "a", 1)], marked, {"a": [1]}, marked[1])
        self.assert_rises([("cut", 9, "a", 3)], marked, marked[0], marked[1])
        self.assert_rises([("cut", 9, "a", 0)], marked, {}, marked[1])
        self.assert_rises([("free", 9, "h")], marked, marked[0])
        due = self.assert_rises([("carry", 9, 2, "w")], marked, marked[0], marked[1])
        self.assertEqual(due[1:], ([(0, 0, 0), (1, 0, 1), (2, 2, 0), (3, 3, 3)], 10, 2))

    def test_rows_below_the_marks_next(self):
        rows = group(0, 3) + [("cut", 3, "a", 0), ("hold", 4, "h")]
        self.assert_rises(rows, ({"a": [0, 1, 2]}, {}, [(at, 0, at) for at in range(3)], 3, 0), {}, {"h": {}})
        self.assert_rises(rows, ({}, {}, [], 4, 0), {}, {"h": {}})
        self.assertEqual(self.assert_rises(rows, ({}, {}, [], 5, 2)), (all_due({}, {}), [], 5, 3))
        self.assertEqual(self.assert_rises(rows, ({}, {}, [], 6, 2)), (all_due({}, {}), [], 6, 3))

    def test_numbers_in_any_order_on_the_disk(self):
        rows = group(0, 4) + [("hold", 4, "a"), ("cut", 5, "a", 1), *group(6, 2, "b"), ("free", 8, "a")]
        for seed in range(30):
            mixed = random.Random(seed).sample(rows, len(rows))
            due = self.assert_rises(mixed, FIRST, {"a": [0], "b": [6, 7]})
            self.assertEqual(due[2], 9)

    def test_a_gap(self):
        rows = [row for at in range(10) for row in group(at, 1, "a", at)]
        for missing in range(10):
            kept = rows[:missing] + rows[missing + 1:]
            due = self.assert_rises(kept, FIRST, {"a": list(range(missing))} if missing else {})
            self.assertEqual(due[2:], (missing, 1))
        for following in range(11):
            # A gap below the mark's next is none.
            births = list(range(following))
            marked = {"a": births} if births else {}, {}, [(at, 3, at) for at in births], following, 0
            for missing in range(following):
                due = self.assert_rises(rows[:missing] + rows[missing + 1:], marked, {"a": list(range(10))})
                self.assertEqual(due[2], 10)

    def test_a_gap_at_the_marks_next(self):
        due = self.assert_rises(group(6, 2), ({"b": [3]}, {}, [(3, 3, 3)], 5, 0), {"b": [3]})
        self.assertEqual(due[2], 5)

    def test_a_gap_of_a_torn_row(self):
        texts = [group(0, 2) + [row_text_of(put(2, 2, True, 2))[:-1]] + group(3, 1, "b")]
        due = all_due({"a": [0, 1]}, {}), [(0, 0, 0), (1, 0, 1)], 2, 1
        self.assert_told(risen, disk_of(3, 4, texts, [FIRST_MARK]), due)

    def test_numbers_of_eighteen_figures(self):
        first = GREATEST - 5
        due = self.assert_rises(group(first, 3), ({}, {}, [], first, GREATEST), {"a": [first, first + 1, first + 2]})
        self.assertEqual(due[2:], (GREATEST - 2, GREATEST + 1))

    def test_cut_hold_free_of_names_that_files_have(self):
        rows = [
            *group(0, 2, "hold"), ("hold", 2, "hold"), ("cut", 3, "hold", 1), ("hold", 4, "free"), *group(5, 1, "free"),
            ("free", 6, "hold"), ("hold", 7, "hold"), ("cut", 8, "free", 0), ("free", 9, "free")]
        held = [{}, {}, {"hold": {"hold": [0, 1]}}, {"hold": {"hold": [0, 1]}}]
        tables = [{}, {"hold": [0, 1]}, {"hold": [0, 1]}, {"hold": [0]}]
        for many in range(1, 4):
            self.assert_rises(rows[:many + 1], FIRST, tables[many], held[many])
        self.assert_rises(rows[:6], FIRST, {"hold": [0], "free": [5]}, {**held[3], "free": {"hold": [0]}})
        self.assert_rises(rows[:7], FIRST, {"hold": [0], "free": [5]}, {"free": {"hold": [0]}})
        self.assert_rises(rows, FIRST, {"hold": [0]}, {"hold": {"hold": [0], "free": [5]}})
        due = self.assert_rises(rows, FIRST)
        self.assertEqual(due[1], [(0, 0, 0), (5, 0, 5)])

    def test_what_lives_in_held_files_alone(self):
        rows = [*group(0, 3), ("hold", 3, "h"), ("cut", 4, "a", 0), ("carry", 5, 1, "w1")]
        due = self.assert_rises(rows, FIRST, {}, {"h": {"a": [0, 1, 2]}})
        self.assertEqual(due[1:], ([(0, 0, 0), (1, 2, 0), (2, 0, 2)], 6, 1))
        due = self.assert_rises(rows + [("free", 6, "h")], FIRST, {}, {})
        self.assertEqual(due[1:], ([], 7, 1))
        marked = {}, {"h": {"b": [2, 1]}}, [(1, 3, 1), (2, 3, 0)], 8, 3
        due = self.assert_rises([("carry", 8, 1, "w1"), ("hold", 9, "i")], marked, {}, {"h": {"b": [2, 1]}, "i": {}})
        self.assertEqual(due[1:], ([(1, 2, 0), (2, 3, 0)], 10, 4))

    def test_put_anew(self):
        rows = group(0, 3) + [put(3, 3, True, 1), put(4, 4, True, 3), put(5, 5, True, 1)]
        due = self.assert_rises(rows, FIRST, {"a": [0, 5, 2, 4]})
        self.assertEqual(due[1], [(0, 0, 0), (2, 0, 2), (4, 0, 4), (5, 0, 5)])

    def test_two_hundred_rows(self):
        chance = random.Random(200)
        house = PlainHouse(Disk(16, 32))
        house.mark()
        while house.following < 200:
            many = len(house.table.get("a", []))
            house.put("a", some_pairs(chance, many, min(8, 200 - house.following)))
            if house.following in (50, 51, 90, 91, 130, 131):
                house.do("hold", NAMES[house.following // 40])
        for ask in (risen, risen_all):
            self.assert_told(ask, house.disk, house.told())

    def test_a_file_of_two_hundred_places(self):
        rows = [put(at, at, True, at) for at in range(200)]
        texts = [rows[at:at + 32] for at in range(0, 200, 32)]
        disk = disk_of(16, 32, texts, [FIRST_MARK])
        due = all_due({"a": list(range(200))}, {}), [(at, at // 32, at % 32) for at in range(200)], 200, 1
        for ask in (risen, risen_all):
            self.assert_told(ask, disk, due)


class GroupsTest(RisingsCase):

    def test_groups_of_one_to_eight_rows(self):
        for many in range(1, 9):
            due = self.assert_rises(group(0, many), FIRST, {"a": list(range(many))})
            self.assertEqual(due[2], many)

    def test_groups_without_their_end(self):
        for many in range(2, 9):
            for there in range(1, many):
                due = self.assert_rises(group(0, many)[:there], FIRST, {})
                self.assertEqual(due, (all_due({}, {}), [], there, 1))

    def test_rows_behind_a_group_that_is_passed_over(self):
        for there in range(1, 8):
            rows = group(0, 8)[:there] + group(there, 2, "b") + [("hold", there + 2, "h")]
            due = self.assert_rises(rows, FIRST, {"b": [there, there + 1]}, {"h": {"b": [there, there + 1]}})
            self.assertEqual(due[2], there + 3)
            # Another group of the same file, at the same places.
            rows = group(0, 8)[:there] + group(there, 3)
            self.assert_rises(rows, FIRST, {"a": [there, there + 1, there + 2]})

    def test_groups_passed_over_one_behind_the_other(self):
        rows = group(0, 3)[:2] + group(2, 8)[:7] + group(9, 2)[:1] + group(10, 2) + group(12, 4)[:3]
        due = self.assert_rises(rows, FIRST, {"a": [10, 11]})
        self.assertEqual(due[2], 15)

    def test_a_gap_amid_a_group(self):
        for many in range(2, 9):
            for missing in range(many):
                rows = group(0, 2, "b") + group(2, many) + [("hold", 2 + many, "h")]
                rows = [row for row in rows if row[1] != 2 + missing]
                due = self.assert_rises(rows, FIRST, {"b": [0, 1]}, {})
                self.assertEqual(due[2], 2 + missing)

    def test_a_group_begun_ahead_of_the_mark(self):
        for following in range(1, 4):
            due = self.assert_rises(group(0, 4), ({}, {}, [], following, 0), {})
            self.assertEqual(due[2:], (4, 1))
            rows = group(0, 4) + [("hold", 4, "h"), *group(5, 1, "b")]
            marked = {"a": [0]}, {}, [(0, 0, 0)], following, 1
            self.assert_rises(rows, marked, {"a": [0], "b": [5]}, {"h": {"a": [0]}})
        # Its first rows are not even on the disk.
        self.assert_rises(group(0, 4)[2:], ({}, {}, [], 2, 0), {})

    def test_a_group_that_begins_at_the_marks_next(self):
        self.assert_rises(group(0, 3), FIRST, {"a": [0, 1, 2]})
        self.assert_rises(group(3, 3), ({}, {}, [], 3, 0), {"a": [3, 4, 5]})

    def test_a_group_passed_over_takes_nothing_away(self):
        marked = {"a": [2, 3]}, {}, [(2, 3, 0), (3, 3, 1)], 5, 0
        due = self.assert_rises(group(5, 3)[:2], marked, {"a": [2, 3]})
        self.assertEqual(due[1:], ([(2, 3, 0), (3, 3, 1)], 7, 1))

    def test_a_file_put_and_cut_about_a_group_that_is_passed_over(self):
        rows = [*group(0, 2), put(2, 2, False, 2), put(3, 2, False, 3), ("cut", 4, "a", 1), put(5, 5, True, 1)]
        self.assert_rises(rows, FIRST, {"a": [0, 5]})

    def test_groups_of_no_first_row(self):
        # A group whose first number is another group's row, a row of another kind, none that is there.
        rows = [("hold", 0, "h"), *group(1, 2)]
        for first in (0, 2, 9, GREATEST):
            due = self.assert_rises(rows + [put(3, first, True, 2)], FIRST, {"a": [1, 2]}, {"h": {}})
            self.assertEqual(due[2], 4)
        self.assert_rises([put(0, 0, False, 0), ("hold", 1, "h"), put(2, 0, True, 1)], FIRST, {}, {"h": {}})
        self.assert_rises([put(0, 0, False, 0), put(1, 1, True, 0, "b"), put(2, 0, True, 1)], FIRST, {"b": [1]})


class CarriedTest(RisingsCase):

    def test_several_of_one_birth(self):
        rows = [
            *group(0, 2), ("carry", 2, 1, "w1"), ("carry", 3, 0, "w0"), ("carry", 4, 1, "w1"), ("hold", 5, "h"),
            ("carry", 6, 1, "w1")]
        for many, spot in ((2, (0, 1)), (3, (2, 0)), (4, (2, 0)), (5, (2, 2)), (6, (2, 2)), (7, (2, 3))):
            due = self.assert_rises(rows[:many], FIRST, {"a": [0, 1]}, {"h": {"a": [0, 1]}} if many > 5 else {})
            self.assertEqual(due[1], [(0, *((0, 0) if many < 4 else (2, 1))), (1, *spot)])

    def test_the_greatest_number_and_not_the_last_place(self):
        rows = [*group(0, 1), ("carry", 3, 0, "w0"), ("carry", 1, 0, "w0"), ("carry", 2, 0, "w0")]
        self.assertEqual(self.assert_rises(rows)[1], [(0, 2, 0)])
        # A carry below the mark's next is not among the taken rows.
        due = self.assert_rises(rows, ({"a": [0]}, {}, [(0, 1, 1)], 4, 0))
        self.assertEqual(due[1], [(0, 1, 1)])
        due = self.assert_rises(rows, ({"a": [0]}, {}, [(0, 1, 1)], 3, 0))
        self.assertEqual(due[1], [(0, 2, 0)])

    def test_carried_behind_a_gap(self):
        rows = [*group(0, 1), ("carry", 1, 0, "w0"), ("carry", 3, 0, "w0")]
        self.assertEqual(self.assert_rises(rows)[1:], ([(0, 2, 0)], 2, 1))

    def test_carried_and_then_put(self):
        # Whichever stands last: here the row itself, behind a carry of its number.
        rows = [("carry", 0, 1, "w1"), put(1, 1, True, 0)]
        self.assertEqual(self.assert_rises(rows)[1:], ([(1, 0, 0)], 2, 1))

    def test_of_what_does_not_live(self):
        rows = [
            *group(0, 2), put(2, 2, True, 0), put(3, 3, False, 2), ("carry", 4, 0, "w0"), ("carry", 5, 3, "w3"),
            ("carry", 6, 77, "w")]
        due = self.assert_rises(rows, FIRST, {"a": [2, 1]})
        self.assertEqual(due[1:], ([(1, 0, 1), (2, 0, 2)], 7, 1))

    def test_of_the_marks_births(self):
        marked = {"a": [0, 1]}, {"h": {"a": [2]}}, [(0, 3, 0), (1, 3, 1), (2, 3, 2)], 10, 6
        rows = [("carry", 10, 2, "w2"), ("carry", 11, 0, "w0")]
        due = self.assert_rises(rows, marked, *marked[:2])
        self.assertEqual(due[1:], ([(0, 2, 1), (1, 3, 1), (2, 2, 0)], 12, 7))


class FromTheBeginningTest(RisingsCase):

    def test_no_whole_row(self):
        for texts in ([], [["x"]], [[row_text_of(put(0, 0, True, 0))[:-1]]]):
            self.assert_told(risen_all, disk_of(3, 2, texts, [empty_mark(4, 9)]), (all_due({}, {}), [], 0, 5))

    def test_the_mark_gives_its_number_only(self):
        mark = mark_of({"b": [7]}, {"h": {}}, [(7, 2, 2)], 9, 3)
        texts = [group(0, 3)]
        self.assert_told(risen_all, disk_of(4, 4, texts, [None, mark]), due_from_the_beginning(texts, 4))
        self.assert_told(risen_all, disk_of(4, 4, texts, [empty_mark(8), mark]), due_from_the_beginning(texts, 9))

    def test_gone(self):
        rows = group(0, 3) + [("hold", 3, "h"), ("carry", 4, 1, "w1")]
        self.assert_told(risen_all, disk_of(4, 32, spread(rows), [FIRST_MARK]), due_from_the_beginning(spread(rows)))
        for missing in range(4):
            kept = [row for row in rows if row[1] != missing]
            self.assert_refused(Gone, risen_all, disk_of(4, 32, spread(kept), [FIRST_MARK]))
            self.assert_refused(Gone, risen_all, disk_of(4, 32, spread(kept), [empty_mark(0, 5)]))
        # The greatest one is missed by nobody.
        texts = spread(rows[:4])
        self.assert_told(risen_all, disk_of(4, 32, texts, [FIRST_MARK]), due_from_the_beginning(texts))

    def test_gone_far_off(self):
        for number in (1, 2, GREATEST):
            for rows in ([("hold", number, "h")], [("hold", 0, "h"), ("free", max(2, number), "h")]):
                self.assert_refused(Gone, risen_all, disk_of(3, 2, [rows], [FIRST_MARK]))

    def test_gone_in_an_emptying(self):
        texts = [group(0, 3), group(3, 2, "b")]
        disk = disk_of(3, 4, texts, [FIRST_MARK])
        self.assert_told(risen_all, disk, due_from_the_beginning(texts))
        for many in range(1, 3):
            self.assert_refused(Gone, risen_all, stopped_in(disk, many, "empty", 0))
        self.assert_told(risen_all, stopped_in(disk, 0, "empty", 0), told_of(risen_all(disk)))
        disk.empty(0)
        self.assert_refused(Gone, risen_all, disk)
        disk.empty(1)
        self.assert_told(risen_all, disk, (all_due({}, {}), [], 0, 1))

    def test_groups_passed_over(self):
        rows = group(0, 3)[:2] + group(2, 2) + group(4, 8)[:5]
        due = all_due({"a": [2, 3]}, {}), [(2, 0, 2), (3, 0, 3)], 9, 1
        self.assert_told(risen_all, disk_of(4, 32, spread(rows), [FIRST_MARK]), due)
        self.assert_told(risen, disk_of(4, 32, spread(rows), [FIRST_MARK]), due)


class ByChanceTest(RisingsCase):

    def test_rows_of_all_kinds_with_gaps_and_odd_groups(self):
        done = passed = 0
        for seed in range(3000):
            chance = random.Random(seed)
            number, rows = chance.randrange(3), []
            while len(rows) < chance.randint(1, 14):
                many, file = chance.randint(1, 4), chance.choice(("a", "b"))
                kind = chance.choice(("put", "put", "put", "cut", "hold", "free", "carry"))
                if kind == "put":
                    new = group(number, many, file, chance.randrange(2))
                    first = chance.choice((number, number, number, chance.randrange(number + 4)))
                    new = [(*row[:2], first, *row[3:]) for row in new[:chance.randint(1, many)]]
                elif kind == "carry":
                    new = [("carry", number, chance.randrange(number + 2), "w")]
                else:
                    new = [(kind, number, file, chance.randrange(3))[:4 if kind == "cut" else 3]]
                number += len(new) + (chance.random() < 0.03)
                rows += new
            chance.shuffle(rows)
            marked = ({}, {}, [], chance.choice((0, 0, 1, 2, 3)), chance.randrange(9))
            try:
                due_behind(marked, placed_of(spread(rows)))
            except LookupError:
                # Point 10 refuses one of these deeds: no house writes it.
                continue
            due = self.assert_rises(rows, marked)
            done += 1
            passed += due[2] > marked[3]
        self.assertGreater(done, 500)
        self.assertGreater(passed, 300)

    def test_long_rows_of_deeds_with_stops(self):
        stops = gone = 0
        for seed in range(60):
            chance = random.Random(seed)
            house = PlainHouse(Disk(chance.randint(3, 8), chance.randint(2, 8)))
            house.mark()
            for turn in range(40):
                stops += house.walk(chance, 0.3, 60)
                self.assert_told(risen, house.disk, house.told())
                self.assert_told(risen, house.disk.copied(), house.told())
                numbers = sorted(row[1] for row, stretch, place in house.placed)
                if numbers == list(range(len(numbers))):
                    self.assert_told(risen_all, house.disk, house.told())
                else:
                    gone += 1
                    self.assert_refused(Gone, risen_all, house.disk)
        self.assertGreater(stops, 100)
        self.assertGreater(gone, 100)

    def test_a_stop_at_each_sign(self):
        deeds = (
            ("mark",), ("put", "a", [(0, "x"), (1, "y")]), ("hold", "a"), ("put", "a", [(1, "z")]), ("clean", 0),
            ("cut", "a", 1), ("free", "a"), ("put", "b", [(0, "q")]), ("clean", 1), ("put", "b", [(0, "r"), (0, "s")]))
        whole = PlainHouse(Disk(8, 2))
        for deed in deeds:
            whole.do_deed(deed)
        stops = {}
        for many in range(whole.disk.signs()):
            house = PlainHouse(Disk(8, 2))
            house.disk.stop(many)
            for deed in deeds:
                # A stop leaves the disk so that another stretch may be closed than without it.
                while deed[0] != "clean" or deed[1] in house.cleanable():
                    try:
                        house.do_deed(deed)
                        break
                    except Stopped:
                        stops[deed[0]] = stops.get(deed[0], 0) + 1
                    house.go_on()
                    self.assert_behind_a_stop(house)
                self.assert_told(risen, house.disk, house.told())
        self.assertEqual(sum(stops.values()), whole.disk.signs())
        self.assertGreater(stops["clean"], 100)

    def assert_behind_a_stop(self, house):
        if house.marks == 0:
            self.assert_refused(NoMark, risen, house.disk)
            self.assert_refused(NoMark, risen_all, house.disk)
        else:
            self.assert_told(risen, house.disk, house.told())


class AskedTest(RisingsCase):

    def setUp(self):
        self.rows = [*group(0, 3), ("hold", 3, "h"), ("carry", 4, 1, "w1")]
        self.disk = disk_of(4, 32, spread(self.rows), [FIRST_MARK])
        self.due = due_from_the_beginning(spread(self.rows))

    def test_what_is_told_is_its_askers_own(self):
        for ask in (risen, risen_all):
            state = ask(self.disk)
            state.files().cut("a", 0)
            state.files().free("h")
            state.spots().clear()
            self.assertEqual(told_of(state), self.due)
            self.assert_told(ask, self.disk, self.due)

    def test_what_was_told_stays_behind_later_deeds(self):
        states = [risen(self.disk), risen_all(self.disk)]
        self.disk.write(0, row_text_of(("cut", 5, "a", 0)))
        self.disk.put_side(1, empty_mark(1, 6))
        self.disk.empty(2)
        for state in states:
            self.assertEqual(told_of(state), self.due)

    def test_a_disk_that_has_stopped_tells_all(self):
        self.disk.stop(0)
        for ask in (risen, risen_all):
            self.assert_told(ask, self.disk, self.due)
        with self.assertRaises(Stopped):
            self.disk.empty(0)
        for ask in (risen, risen_all):
            self.assert_told(ask, self.disk, self.due)
            self.assert_told(ask, self.disk.copied(), self.due)

    def test_spots_one_by_one(self):
        state = risen(self.disk)
        self.assertEqual([state.spot(birth) for birth in range(6)], [(0, 0), (2, 0), (0, 2), None, None, None])


if __name__ == "__main__":
    unittest.main()

"""cleanrows.states: point 13, and of 2 and 3 what speaks of states."""

import itertools
import unittest

from cleanrows.files import Files
from cleanrows.states import State, first_state
from model import GREATEST, SAMPLES, all_due, all_told, files_of

TABLE, HELD = {"a": [4, 1], "b": [7]}, {"h": {"a": [2, 1]}}
SPOTS = [(1, 0, 3), (2, 5, 0), (4, 15, 31), (7, 0, 0)]


def all_of(state):
    """All that a state tells, but of births that do not live."""
    files = state.files()
    spots = [state.spot(birth) for birth in files.living()]
    return all_told(files), state.spots(), spots, state.next_number(), state.mark_number()


def due_of(table, held, spots, next_number, mark_number):
    rising = sorted(spots)
    return all_due(table, held), rising, [(at, place) for birth, at, place in rising], next_number, mark_number


class FirstTest(unittest.TestCase):

    def test_the_first_state(self):
        state = first_state()
        self.assertIsInstance(state, State)
        self.assertEqual(all_of(state), due_of({}, {}, [], 0, 0))
        self.assertEqual(state.spots(), [])
        self.assertIsNone(state.spot(0))

    def test_first_states_are_apart(self):
        first_state().files().put("a", 0, 1)
        first_state().spots().append((1, 1, 1))
        self.assertEqual(all_of(first_state()), due_of({}, {}, [], 0, 0))


class ToldTest(unittest.TestCase):

    def test_all_that_it_was_made_of(self):
        state = State(files_of(TABLE, HELD), SPOTS, 8, 3)
        self.assertEqual(all_of(state), due_of(TABLE, HELD, SPOTS, 8, 3))
        self.assertEqual(state.spot(1), (0, 3))
        self.assertEqual(state.spot(4), (15, 31))
        self.assertEqual(state.next_number(), 8)
        self.assertEqual(state.mark_number(), 3)

    def test_spots_handed_in_in_any_order(self):
        for spots in itertools.permutations(SPOTS):
            state = State(files_of(TABLE, HELD), list(spots), 8, 0)
            self.assertEqual(state.spots(), SPOTS)
            self.assertEqual([state.spot(birth) for birth in (1, 2, 4, 7)], [(0, 3), (5, 0), (15, 31), (0, 0)])

    def test_spots_as_tuples_or_lists(self):
        for outer in (list, tuple):
            for inner in (list, tuple):
                state = State(files_of(TABLE, HELD), outer(inner(spot) for spot in reversed(SPOTS)), 8, 0)
                self.assertEqual(state.spots(), SPOTS)
                self.assertIsInstance(state.spots(), list)
                for spot in [*state.spots(), state.spot(1)]:
                    self.assertIsInstance(spot, tuple)
        for none in ([], ()):
            self.assertEqual(State(Files(), none, 0, 0).spots(), [])

    def test_none_of_what_does_not_live(self):
        state = State(files_of(TABLE, HELD), SPOTS, 8, 0)
        for birth in (0, 3, 5, 6, 8, 9, GREATEST, -1):
            self.assertIsNone(state.spot(birth))
        # Whole numbers are no truths, though Python finds True alike with 1.
        self.assertIsNone(state.spot(True))
        self.assertIsNone(State(files_of({"a": [0]}, {}), [(0, 1, 1)], 1, 0).spot(False))

    def test_births_are_ordered_as_numbers(self):
        spots = [(9, 0, 1), (10, 1, 0), (100, 2, 2), (GREATEST - 1, 0, 2)]
        state = State(files_of({"a": [100, 9, GREATEST - 1, 10]}, {}), list(reversed(spots)), GREATEST, GREATEST)
        self.assertEqual(all_of(state), due_of({"a": [100, 9, GREATEST - 1, 10]}, {}, spots, GREATEST, GREATEST))

    def test_samples(self):
        for table, held in SAMPLES:
            births = all_due(table, held)[2]
            spots = [(birth, at % 16, at // 16) for at, birth in enumerate(births)]
            state = State(files_of(table, held), spots[::-1], GREATEST, 5)
            self.assertEqual(all_of(state), due_of(table, held, spots, GREATEST, 5))
            self.assertEqual(all_of(state), all_of(state))

    def test_limits(self):
        table = {"abcdef": list(range(200)), "b": [300]}
        held = {name: {"abcdef": list(range(100, 300))} for name in ("x", "y", "zzzzzz")}
        spots = [(birth, birth % 16, birth // 16) for birth in range(301)]
        state = State(files_of(table, held), spots, 301, 9)
        self.assertEqual(all_of(state), due_of(table, held, spots, 301, 9))


class ApartTest(unittest.TestCase):

    def setUp(self):
        self.files = files_of(TABLE, HELD)
        self.spots = [list(spot) for spot in SPOTS]
        self.state = State(self.files, self.spots, 8, 3)

    def assert_unchanged(self):
        self.assertEqual(all_of(self.state), due_of(TABLE, HELD, SPOTS, 8, 3))

    def spoil(self, files):
        files.put("a", 0, 9)
        files.put("new", 0, 10)
        files.cut("b", 0)
        files.free("h")
        files.hold("now")

    def test_what_is_handed_in_stays(self):
        all_of(self.state)
        self.assertEqual(all_told(self.files), all_due(TABLE, HELD))
        self.assertEqual(self.spots, [list(spot) for spot in SPOTS])

    def test_files_handed_in_are_changed_later(self):
        self.spoil(self.files)
        self.assert_unchanged()

    def test_spots_handed_in_are_changed_later(self):
        self.spots[0][1] = 9
        self.spots[1][0] = 9
        del self.spots[2]
        self.spots.append([11, 1, 1])
        self.assert_unchanged()
        self.spots.clear()
        self.assert_unchanged()

    def test_files_that_were_told_are_changed_later(self):
        told, other = self.state.files(), self.state.files()
        self.spoil(told)
        self.assert_unchanged()
        self.assertEqual(all_told(other), all_due(TABLE, HELD))
        self.state.files().of_held("h").cut("a", 0)
        self.assert_unchanged()

    def test_spots_that_were_told_are_changed_later(self):
        told = self.state.spots()
        told.reverse()
        told.append((1, 1, 1))
        self.assert_unchanged()
        told.clear()
        self.assert_unchanged()

    def test_states_of_the_same_things_are_apart(self):
        other = State(self.files, self.spots, 9, 4)
        self.spoil(self.files)
        self.spots.clear()
        self.assert_unchanged()
        self.assertEqual(all_of(other), due_of(TABLE, HELD, SPOTS, 9, 4))


if __name__ == "__main__":
    unittest.main()

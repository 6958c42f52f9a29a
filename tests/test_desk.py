"""cleanrows.desk: point 27, and of 2, 3 and 4 what speaks of desks."""

import random
import re
import unittest

from cleanrows.desk import Desk
from cleanrows.disks import Disk
from cleanrows.errors import CleanError, NoDeed, NoDisk, NoHouse, Stopped
from cleanrows.houses import House
from model import NO_TEXTS, PlainHouse, any_deed, seen, spoilt_signs, spoilt_words, told_of, words_of

NUMBER, NAME, WORD = "(0|[1-9][0-9]{0,17})", "[a-z]{1,6}", "[a-z0-9]{1,20}"
IN_HOUSE = re.compile(
    f"put {NAME}( {NUMBER} {WORD}){{1,8}}|cut {NAME} {NUMBER}|(hold|free) {NAME}|mark|clean {NUMBER}"
    "|best (worth|least)")
OUT_OF_HOUSE = re.compile(f"stop {NUMBER}|rise|new")

ROWS = (
    "put a 0 x", "put abcdef 0 0 1 00 2 abcdefghij0123456789", "put put 0 put 0 cut 0 hold", "cut a 0",
    "cut abcdef 999999999999999999", "hold a", "hold hold", "free a", "free mark", "mark", "clean 0", "clean 15",
    "clean 999999999999999999", "best worth", "best least", "stop 0", "stop 999999999999999999", "rise", "new",
    "put a " + " ".join(["0 w"] * 8),
)

NO_ROWS = (
    "", " ", "\n", "\t", ";", "put", "put ", "put a", "put a ", "put a 0", "put a 0 ", "put a 0 x ", " put a 0 x",
    "put  a 0 x", "put a  0 x", "put a 0  x", "put a 0 x 1", "put a 0 x 1 ", "put a 0 x 1 y 2", "put a x 0", "put 0 x",
    "put a 00 x", "put a 01 x", "put a +1 x", "put a -1 x", "put a 1.0 x", "put a 1_0 x", "put a 1000000000000000000 x",
    "put a 0 X", "put a 0 x-y", "put a 0 x;", "put a 0 abcdefghijklmnopqrstu", "put abcdefg 0 x", "put A 0 x",
    "put a1 0 x", "put a\t0 x", "put a 0 x\n", "\nput a 0 x", "put a 0\nx", "Put a 0 x", "PUT a 0 x", "puts a 0 x",
    "put a " + " ".join(["0 w"] * 9), "put a " + " ".join(["0 w"] * 8) + " 0", "cut", "cut a", "cut 0", "cut a 0 0",
    "cut a 0 ", "cut a 00", "cut a +0", "cut a -0", "cut a -1", "cut a 1000000000000000000", "cut A 0", "cut abcdefg 0",
    "cut a a", "hold", "hold ", "hold a b", "hold 1", "hold a1", "hold abcdefg", "hold A", "hold a ", "free", "free ",
    "free a b", "free 1", "free abcdefg", "free a\n", "mark ", " mark", "mark 0", "mark a", "marks", "Mark", "clean",
    "clean ", "clean a", "clean 00", "clean 01", "clean -1", "clean +1", "clean 1 2", "clean 1000000000000000000",
    "clean 1 ", "best", "best ", "best Worth", "best least ", "best worth least", "best 0", "best most", "best a",
    "stop", "stop ", "stop a", "stop 01", "stop -1", "stop +1", "stop 1 1", "stop 1000000000000000000", "stop 1\n",
    "rise ", " rise", "rise 0", "rise a", "Rise", "new ", " new", "new 3 2", "new\n", "New", "house", "read a 0",
    "carry 0 0 w", "empty 0", "done", "none",
)


def text_of(deed):
    """The row of words for a deed of a house."""
    if deed[0] == "put":
        return " ".join(["put", deed[1], *(f"{place} {word}" for place, word in deed[2])])
    return " ".join(str(part) for part in deed)


class PlainDesk:
    """A desk as the tests count it, with the tests' own house."""

    def __init__(self, stretches, places):
        self.plain = PlainHouse(Disk(stretches, places))
        self.has_house = self.is_over = False

    def take(self, deed):
        """What is due to be told of a deed, as its name and what stands behind."""
        if deed[0] == "stop":
            self.plain.disk.stop(deed[1])
            return "done"
        if deed[0] == "new":
            return "NotBlank" if self.plain.disk.signs() else self.begin()
        if deed[0] == "rise":
            return self.rise() if self.plain.marks else "NoMark"
        if self.is_over:
            return "Stopped"
        if deed[0] == "best":
            deed = "clean", self.plain.best(deed[1])
            if deed[1] is None:
                return "none"
        error = self.plain.refusal(deed)
        return error.__name__ if error else self.done(deed)

    def done(self, deed):
        try:
            self.plain.do_deed(deed)
        except Stopped:
            self.is_over = True
            return "Stopped"
        return "done"

    def begin(self):
        told = self.done(("mark",))
        self.has_house = told == "done"
        return told

    def rise(self):
        self.plain.go_on()
        self.plain.carried = 0
        self.has_house, self.is_over = True, False
        return "done"

    def some_deed(self, chance):
        way = chance.random()
        if way < 0.08 or self.is_over and way < 0.5:
            return "rise",
        if way < 0.2:
            return "stop", chance.randrange(chance.choice((4, 60, 300)))
        if way < 0.22:
            return "new",
        if way < 0.4:
            return "best", chance.choice(("worth", "least"))
        if way < 0.5:
            return any_deed(chance, self.plain.disk.stretches())
        return self.plain.some_deed(chance)


class DeskCase(unittest.TestCase):

    def assert_raised(self, error, desk, value):
        with self.assertRaises(CleanError) as caught:
            desk.take(value)
        self.assertIs(caught.exception.__class__, error, repr(value))

    def assert_alike(self, desk, due):
        house = desk.house()
        if not due.has_house:
            self.assertIsNone(house)
            return
        self.assertIsInstance(house, House)
        self.assertEqual(seen(house.disk()), seen(due.plain.disk))
        if not due.is_over:
            self.assertEqual(told_of(house.state()), due.plain.told())
            self.assertEqual(words_of(house), due.plain.all_words())
            self.assertEqual(house.carried(), due.plain.carried)

    def lead(self, desk, rows):
        """Take rows, each with what is due to be told."""
        for text, due in rows:
            self.assertEqual(desk.take(text), due, text)


class RowsTest(DeskCase):

    def test_all_rows(self):
        for text in ROWS:
            desk = Desk(3, 2)
            if OUT_OF_HOUSE.fullmatch(text):
                self.assertEqual(desk.take(text), "NoMark" if text == "rise" else "done")
            else:
                self.assertTrue(IN_HOUSE.fullmatch(text))
                self.assert_raised(NoHouse, desk, text)
                desk.take("new")
                self.assertIsInstance(desk.take(text), str)

    def test_what_is_no_row(self):
        for text in NO_ROWS:
            self.assertIsNone(IN_HOUSE.fullmatch(text) or OUT_OF_HOUSE.fullmatch(text), text)
            desk = Desk(3, 2)
            self.assert_raised(NoDeed, desk, text)
            self.assertIsNone(desk.house())
            desk.take("new")
            ahead = seen(desk.house().disk())
            self.assert_raised(NoDeed, desk, text)
            self.assertEqual(seen(desk.house().disk()), ahead)

    def test_what_is_no_text(self):
        for desk in (Desk(3, 2), Desk(3, 2)):
            for value in (*NO_TEXTS, ["mark"], ("mark",), ["put", "a", "0", "x"], b"mark", b"new", {"mark": 1}, Desk):
                self.assert_raised(NoDeed, desk, value)
            desk.take("new")

    def assert_as_the_grammar(self, text):
        desk = Desk(3, 2)
        if OUT_OF_HOUSE.fullmatch(text):
            self.assertEqual(desk.take(text), "NoMark" if text == "rise" else "done")
        else:
            self.assert_raised(NoHouse if IN_HOUSE.fullmatch(text) else NoDeed, desk, text)
            self.assertIsNone(desk.house())

    def test_rows_spoilt_by_words(self):
        refused = 0
        for row in ROWS[:-1]:
            for text in spoilt_words(row):
                refused += not IN_HOUSE.fullmatch(text)
                self.assert_as_the_grammar(text)
        self.assertGreater(refused, 2000)

    def test_rows_spoilt_by_signs(self):
        for row in ROWS[:-1]:
            for text in spoilt_signs(row):
                self.assert_as_the_grammar(text)

    def test_lengths(self):
        for many in range(1, 24):
            for text in (f"put a 0 {'w' * many}", f"put {'a' * many} 0 w", f"put a {'1' * many} w",
                         f"cut {'a' * many} 0", f"cut a {'1' * many}", f"hold {'a' * many}", f"free {'a' * many}",
                         f"clean {'1' * many}", f"stop {'1' * many}", "put a" + " 0 w" * many,
                         "put a 0" + " w 0" * many):
                self.assert_as_the_grammar(text)

    def test_sizes(self):
        for sizes in ((2, 2), (17, 2), (3, 1), (3, 33), ("3", 2), (None, 2), (3, True), (3, [2])):
            with self.assertRaises(CleanError) as caught:
                Desk(*sizes)
            self.assertIs(caught.exception.__class__, NoDisk)
        for sizes in ((3, 2), (16, 32)):
            desk = Desk(*sizes)
            self.assertIsNone(desk.house())
            desk.take("new")
            disk = desk.house().disk()
            self.assertEqual((disk.stretches(), disk.places()), sizes)


class ToldTest(DeskCase):

    def test_word_for_word(self):
        desk = Desk(4, 2)
        self.lead(desk, (
            ("rise", "NoMark"), ("new", "done"), ("new", "NotBlank"), ("best worth", "none"), ("best least", "none"),
            ("put a 0 x 1 y", "done"), ("put a 3 z", "NoPlace"), ("cut b 0", "NoFile"), ("cut a 3", "NoPlace"),
            ("hold h", "done"), ("hold h", "HeldAlready"), ("free g", "NotHeld"), ("put a 0 z", "done"),
            ("clean 1", "NotClosed"), ("clean 3", "NotClosed"), ("clean 0", "done"), ("mark", "done"),
            ("put b 0 q 0 r 0 s", "NoRoom"), ("put b 0 q 0 r", "done"), ("cut a 1", "NoRoom"), ("hold i", "NoRoom"),
            ("free h", "NoRoom"), ("best least", "done")))
        self.assertEqual(words_of(desk.house()), ({"a": ["z", "y"], "b": ["r"]}, {"h": {"a": ["x", "y"]}}))
        self.assertEqual(desk.house().carried(), 3)

    def test_pairs_in_their_order(self):
        desk = Desk(8, 2)
        self.lead(desk, (("new", "done"), ("put a 0 w0 1 w1 0 w2 2 w3 3 w4 1 w5 4 w6 0 w7", "done")))
        self.assertEqual(words_of(desk.house())[0], {"a": ["w7", "w5", "w3", "w4", "w6"]})
        self.assertEqual(desk.house().state().next_number(), 8)

    def test_done_none_and_names_are_texts(self):
        desk = Desk(3, 2)
        for text, due in (("new", "done"), ("best least", "none"), ("clean 0", "NotClosed")):
            told = desk.take(text)
            self.assertIsInstance(told, str)
            self.assertEqual(told, due)

    def test_no_house(self):
        desk = Desk(3, 2)
        for turn in range(2):
            for text in ROWS:
                if IN_HOUSE.fullmatch(text):
                    self.assert_raised(NoHouse, desk, text)
            desk.take("stop 0")
            self.assertEqual(desk.take("new"), "Stopped")
            self.assertIsNone(desk.house())

    def test_new_refused(self):
        for many in range(20):
            desk = Desk(3, 2)
            self.lead(desk, ((f"stop {many}", "done"), ("new", "Stopped")))
            self.assertIsNone(desk.house())
            self.assert_raised(NoHouse, desk, "mark")
            # The disk has stopped, and no mark is whole: it stays so.
            self.lead(desk, (("rise", "NoMark"), ("new", "NotBlank" if many else "Stopped"), ("stop 99", "done")))
            self.lead(desk, (("new", "NotBlank" if many else "Stopped"),))
            self.assertIsNone(desk.house())
        desk = Desk(3, 2)
        self.lead(desk, (("stop 20", "done"), ("new", "done"), ("mark", "Stopped"), ("rise", "done"), ("mark", "done")))

    def test_new_beside_a_house(self):
        desk = Desk(3, 2)
        desk.take("new")
        desk.take("put a 0 x")
        house = desk.house()
        ahead = seen(house.disk()), told_of(house.state())
        self.assertEqual(desk.take("new"), "NotBlank")
        self.assertIs(desk.house(), house)
        self.assertEqual((seen(house.disk()), told_of(house.state())), ahead)
        self.lead(desk, (("stop 0", "done"), ("mark", "Stopped"), ("new", "NotBlank")))
        self.assertIs(desk.house(), house)

    def test_rise(self):
        desk = Desk(4, 3)
        self.lead(desk, (("new", "done"), ("put a 0 x 1 y", "done"), ("hold h", "done"), ("put a 0 z", "done")))
        older = desk.house()
        told = seen(older.disk()), told_of(older.state()), words_of(older)
        self.assertEqual(desk.take("rise"), "done")
        house = desk.house()
        self.assertIsNot(house, older)
        self.assertIsNot(house.disk(), older.disk())
        self.assertEqual((seen(house.disk()), told_of(house.state()), words_of(house)), told)
        self.assertEqual(house.carried(), 0)
        self.lead(desk, (("put a 0 q", "done"), ("clean 0", "done"), ("free h", "done")))
        # The house that was told ahead stays as it was.
        self.assertEqual((seen(older.disk()), told_of(older.state()), words_of(older)), told)
        older.put("b", [(0, "own")])
        self.assertEqual(desk.house().files().names(), ["a"])

    def test_rise_refused_leaves_disk_and_house(self):
        desk = Desk(3, 2)
        self.lead(desk, (("rise", "NoMark"), ("stop 5", "done"), ("rise", "NoMark"), ("new", "Stopped")))
        self.assertIsNone(desk.house())
        # The stop that was told ahead of the rise was not lost by it: no copy has taken the disk's place.
        self.lead(desk, (("rise", "NoMark"), ("rise", "NoMark")))
        desk = Desk(3, 2)
        self.lead(desk, (("stop 5", "done"), ("rise", "NoMark"), ("new", "Stopped")))

    def test_rise_takes_a_stop_away(self):
        desk = Desk(3, 2)
        self.lead(desk, (("new", "done"), ("stop 1", "done"), ("rise", "done"), ("put a 0 x", "done")))

    def test_a_house_of_no_use(self):
        desk = Desk(4, 2)
        self.lead(desk, (("new", "done"), ("put a 0 x", "done"), ("stop 3", "done"), ("put a 0 y", "Stopped")))
        for text in ("best worth", "best least", "mark", "put a 9 x", "put a 0 x", "cut b 0", "cut a 9", "hold h",
                     "free h", "clean 0", "clean 9"):
            self.assertEqual(desk.take(text), "Stopped")
            self.assert_raised(NoDeed, desk, text + " ")
        self.lead(desk, (("stop 1000", "done"), ("mark", "Stopped"), ("new", "NotBlank"), ("rise", "done")))
        self.lead(desk, (("best worth", "none"), ("put a 0 y", "done"), ("best worth", "done")))
        self.assertEqual(words_of(desk.house()), ({"a": ["y"]}, {}))

    def test_best_by_both_kinds(self):
        for kind, due in (("worth", 0), ("least", 1)):
            desk = Desk(8, 3)
            self.lead(desk, (("new", "done"), ("put a 0 x", "done"), ("put b 0 w 0 w", "done")))
            self.lead(desk, [("put b 0 w", "done")] * 4)
            house = desk.house()
            self.assertEqual(house.disk().next_place(2), 1)
            self.assertEqual(desk.take(f"best {kind}"), "done")
            empty = [stretch for stretch in (0, 1) if house.disk().next_place(stretch) == 0]
            self.assertEqual(empty, [due])

    def test_best_is_refused_as_clean_is(self):
        desk = Desk(3, 2)
        self.lead(desk, (("new", "done"), ("put a 0 x 1 y 2 z", "done"), ("stop 20", "done")))
        self.lead(desk, (("best least", "Stopped"), ("rise", "done")))
        self.lead(desk, (("best least", "NoRoom"), ("best worth", "NoRoom"), ("clean 0", "NoRoom")))
        self.lead(desk, (("put a 1 q", "done"), ("best least", "done")))


class TogetherTest(DeskCase):

    def test_long_rows_of_words(self):
        told = {}
        for seed in range(60):
            chance = random.Random(seed)
            sizes = chance.randint(3, 8), chance.randint(2, 6)
            desk, due = Desk(*sizes), PlainDesk(*sizes)
            self.lead(desk, (("new", due.take(("new",))),))
            for turn in range(60):
                deed = due.some_deed(chance)
                text = text_of(deed)
                if " -" in text:
                    self.assert_raised(NoDeed, desk, text)
                    continue
                answer = due.take(deed)
                self.assertEqual(desk.take(text), answer, text)
                self.assert_alike(desk, due)
                told[answer] = told.get(answer, 0) + 1
        self.assertEqual(sorted(told), [
            "HeldAlready", "NoFile", "NoPlace", "NoRoom", "NotBlank", "NotClosed", "NotHeld", "Stopped", "done",
            "none"])

    def test_two_desks_by_turns(self):
        chance = random.Random(2)
        desks = [(Desk(*sizes), PlainDesk(*sizes)) for sizes in ((4, 3), (6, 2))]
        for desk, due in desks:
            desk.take("new")
            due.take(("new",))
        for turn in range(120):
            desk, due = chance.choice(desks)
            deed = due.some_deed(chance)
            if " -" not in text_of(deed):
                self.assertEqual(desk.take(text_of(deed)), due.take(deed))
            for one, other in desks:
                self.assert_alike(one, other)

    def test_a_stop_at_each_sign(self):
        rows = ("new", "put a 0 x 1 y", "hold h", "put a 1 z", "best worth", "cut a 1", "mark", "free h", "best least")
        deeds = [("new",), ("put", "a", [(0, "x"), (1, "y")]), ("hold", "h"), ("put", "a", [(1, "z")]),
                 ("best", "worth"), ("cut", "a", 1), ("mark",), ("free", "h"), ("best", "least")]
        whole = Desk(8, 2)
        for text in rows:
            whole.take(text)
        for many in range(whole.house().disk().signs()):
            desk, due = Desk(8, 2), PlainDesk(8, 2)
            self.lead(desk, ((f"stop {many}", due.take(("stop", many))),))
            for text, deed in zip(rows, deeds):
                if text != "new" and not due.has_house:
                    self.assert_raised(NoHouse, desk, text)
                    continue
                answer = due.take(deed)
                self.assertEqual(desk.take(text), answer)
                self.assert_alike(desk, due)
                if answer == "Stopped":
                    self.lead(desk, ((text, due.take(deed)), ("rise", due.take(("rise",)))))
                    self.assert_alike(desk, due)
                    if due.has_house:
                        self.lead(desk, ((text, due.take(deed)),))


if __name__ == "__main__":
    unittest.main()

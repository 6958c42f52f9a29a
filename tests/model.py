"""What the tests count with by themselves, apart from the program: plain tables, their texts, sums, a plain house.

A table is a dict of files: by name the list of its births. What is held is a dict of such tables by name.
Placed is a row with its stretch and its place, as (row, stretch, place).
"""

import re
from fractions import Fraction

from cleanrows.disks import Disk
from cleanrows.errors import HeldAlready, NoFile, NoPlace, NoRoom, NotClosed, NotHeld, Stopped
from cleanrows.files import Files

GREATEST = 10 ** 18 - 1
SIGNS = [chr(code) for code in range(32, 127)] + ["\t", "\n"]
# Names and words, the heads of rows among them.
NAMES = ("a", "put", "cut", "hold", "free", "carry", "mark", "abcdef")
WORDS = ("put", "cut", "hold", "free", "carry", "mark", "0", "1", "00", "w", "abcdefghijklmn")
NO_TEXTS = (
    None, True, False, 0, 1, -1, 10 ** 18, b"", b"0 0", b"mark 0 0 0 0 0 5393;", [], ["0 0"], ["0", "0"], (), ("0 0",),
    {}, {"0": "0"}, {"0 0"}, object(), str, len, Files(), ValueError("0 0"),
)

# Tables and what is held with them: none, few, many, alike births, births of one and of eighteen figures.
SAMPLES = (
    ({}, {}),
    ({"a": [0]}, {}),
    ({"a": [1, 0], "b": [0]}, {}),
    ({"zzzzzz": [GREATEST], "a": [GREATEST, GREATEST], "ab": [10 ** 17]}, {}),
    ({}, {"h": {}}),
    ({"a": [7]}, {"h": {}, "g": {"a": [7]}}),
    ({"b": [5, 6, 7], "a": [12]}, {"old": {"b": [5, 2], "c": [3]}, "a": {"b": [1]}}),
    ({"a": [3]}, {"d": {"a": [3]}, "c": {"a": [3], "b": [3]}, "b": {}, "abcdef": {"zz": [GREATEST, 0, 3]}}),
)


def counted_sum(text):
    """The sum of point 6."""
    return sum(at * ord(sign) for at, sign in zip(range(1, len(text) + 1), text)) % 65521


def sealed(body):
    """A body that may be none, with its right sum behind it."""
    return f"{body}{counted_sum(body)};"


def row_text_of(row):
    """The text of point 6."""
    parts = [str(int(part)) if isinstance(part, bool) else str(part) for part in row]
    return sealed("".join(part + " " for part in parts))


def files_of(table, held):
    """Files with such a table, and such tables held."""
    files = Files()
    for name in held:
        fill(files, held[name])
        files.hold(name)
        for file in files.names():
            files.cut(file, 0)
    fill(files, table)
    return files


def fill(files, table):
    for file, births in table.items():
        for place, birth in enumerate(births):
            files.put(file, place, birth)


def table_of(files):
    """The table that files tell, their order kept by the dict."""
    return {file: [files.birth(file, place) for place in range(files.many(file))] for file in files.names()}


def held_of(files):
    """The tables that are held in files."""
    return {name: table_of(files.of_held(name)) for name in files.held()}


def all_told(files):
    """All that files tell, as lists, so that the order counts too."""
    held = [(name, list(table_of(files.of_held(name)).items())) for name in files.held()]
    return list(table_of(files).items()), held, files.living()


def all_due(table, held):
    """All that files with such a table and such tables held must tell."""
    living = {birth for one in [table, *held.values()] for births in one.values() for birth in births}
    return ordered(table), [(name, ordered(held[name])) for name in sorted(held)], sorted(living)


def ordered(table):
    return [(file, list(table[file])) for file in sorted(table)]


def table_text(table):
    parts = [str(len(table))]
    for file in sorted(table):
        parts += [file, str(len(table[file])), *map(str, table[file])]
    return " ".join(parts)


def text_of(table, held):
    """The text of point 12."""
    parts = [table_text(table), str(len(held))]
    for name in sorted(held):
        parts += [name, table_text(held[name])]
    return " ".join(parts)


def parsed_table(words):
    table = {}
    for turn in range(int(words.pop(0))):
        file = words.pop(0)
        table[file] = [int(words.pop(0)) for place in range(int(words.pop(0)))]
    return table


def parsed(words):
    """The table and what is held that words tell, which are taken from their list; all sorts of words will do."""
    table = parsed_table(words)
    held = {}
    for turn in range(int(words.pop(0))):
        name = words.pop(0)
        held[name] = parsed_table(words)
    return table, held


def is_sound(table, held):
    """Whether a table and what is held keep the bounds of points 5 and 12."""
    names = [*table, *held, *(file for one in held.values() for file in one)]
    rows = [births for one in [table, *held.values()] for births in one.values()]
    return (
        all(re.fullmatch("[a-z]{1,6}", name) for name in names)
        and all(births and all(0 <= birth <= GREATEST for birth in births) for births in rows))


def read_text(text):
    """The table and what is held that a text of point 12 tells; None where it is none."""
    words = text.split(" ")
    try:
        table, held = parsed(words)
    except (ValueError, IndexError):
        return None
    return (table, held) if is_sound(table, held) and text_of(table, held) == text else None


def spoilt_words(text):
    """Texts that come from one by spoiling it word by word; some of them may be texts of something else."""
    words = text.split(" ")
    for at, word in enumerate(words):
        for other in spoilt_word(word):
            yield " ".join(words[:at] + other + words[at + 1:])
        for to in range(at):
            exchanged = list(words)
            exchanged[at], exchanged[to] = exchanged[to], exchanged[at]
            yield " ".join(exchanged)


def spoilt_word(word):
    yield []
    yield [word, word]
    for other in ("", " ", "0", "1", "2", "a", "b", "zzzzzz", "A", "\n", "\t", "-1", "1" + "0" * 18, "9" * 18,
                  "abcdefg"):
        yield [other]
        yield [other, word]
        yield [word, other]
    for ahead in ("0", "00", "+", "-", " ", "\n", "1_", "A", "1", "a"):
        yield [ahead + word]
    for behind in (" ", "\n", "\t", ".", ".0", "_1", "A", "0" * 18, "abcdef", ";", ","):
        yield [word + behind]


def spoilt_signs(text, signs=SIGNS):
    """Texts that come from one by taking out, exchanging and putting in a sign."""
    for at in range(len(text)):
        yield text[:at] + text[at + 1:]
        for sign in signs:
            if sign != text[at]:
                yield text[:at] + sign + text[at + 1:]
    for at in range(len(text) + 1):
        for sign in signs:
            yield text[:at] + sign + text[at:]


def mark_body(table, held, spots, next_number, mark_number):
    """The body of point 14."""
    parts = ["mark", str(mark_number), str(next_number), text_of(table, held), str(len(spots))]
    for spot in sorted(spots):
        parts += map(str, spot)
    return " ".join(parts) + " "


def told_of(state):
    """All that a state tells, but of spots that are asked one by one."""
    return all_told(state.files()), state.spots(), state.next_number(), state.mark_number()


def seen(disk):
    """All that a disk tells."""
    stretches = range(disk.stretches())
    return (
        [disk.next_place(stretch) for stretch in stretches],
        [[disk.told(stretch, place) for place in range(disk.places())] for stretch in stretches],
        [disk.side(0), disk.side(1)],
        disk.signs(),
    )


def disk_of(stretches, places, texts, sides=()):
    """A disk with such texts, a list for each of its first stretches, and such marks; a row is written as its text."""
    disk = Disk(stretches, places)
    for stretch, part in enumerate(texts):
        for text in part:
            disk.write(stretch, text if isinstance(text, str) else row_text_of(text))
    for side, text in enumerate(sides):
        if text is not None:
            disk.put_side(side, text)
    return disk


def stopped_in(disk, many, deed, *parts):
    """A copy of a disk that stopped behind so many signs more, in a deed of its own."""
    disk = disk.copied()
    disk.stop(many)
    try:
        getattr(disk, deed)(*parts)
    except Stopped:
        return disk.copied()
    raise AssertionError("the disk did not stop")


def do_to_tables(table, held, row):
    """Do to a table, and to what is held, what a row does; what point 10 refuses is a LookupError here."""
    kind = row[0]
    if kind == "put":
        births = table.get(row[4], [])
        if row[5] > len(births):
            raise LookupError(row)
        table[row[4]] = births[:row[5]] + [row[1]] + births[row[5] + 1:]
    elif kind == "cut":
        table[row[2]] = table[row[2]][:row[3]] if row[3] <= len(table[row[2]]) else [][0]
        if row[3] == 0:
            del table[row[2]]
    elif kind == "hold":
        if row[2] in held:
            raise LookupError(row)
        held[row[2]] = dict(table)
    elif kind == "free":
        del held[row[2]]


def due_behind(marked, placed):
    """What point 16 tells of the state behind a mark, in parts as a mark's state has them, and of placed rows."""
    table, held, spots, number, mark_number = marked
    table, held = dict(table), dict(held)
    by_number = {row[1]: (row, stretch, place) for row, stretch, place in placed}
    taken = []
    while number in by_number:
        taken.append(by_number[number])
        number += 1
    groups = {}
    for row, stretch, place in taken:
        if row[0] == "put":
            groups.setdefault(row[2], {})[row[1]] = row[3]
    for row, stretch, place in taken:
        if row[0] != "put" or is_whole_group(groups[row[2]], row[2]):
            do_to_tables(table, held, row)
    living = all_due(table, held)[2]
    last = {birth: (stretch, place) for birth, stretch, place in spots}
    for birth in living:
        own = [(row[1], stretch, place) for row, stretch, place in taken
               if row[:2] == ("put", birth) or row[0] == "carry" and row[2] == birth]
        if own:
            last[birth] = max(own)[1:]
    return all_due(table, held), [(birth, *last[birth]) for birth in living], number, mark_number


def is_whole_group(ends, first):
    """Whether a group reaches from its first number to an end; ends tells by number whether that row is one."""
    return any(is_end and set(range(first, number + 1)) <= set(ends) and first <= number
               for number, is_end in ends.items())


def words_of(house):
    """All words of all files of a house, and of all held ones, read one by one."""
    files = house.files()
    words = {file: [house.read(file, place) for place in range(files.many(file))] for file in files.names()}
    held = {}
    for name in files.held():
        own = files.of_held(name)
        held[name] = {
            file: [house.read_held(name, file, place) for place in range(own.many(file))] for file in own.names()}
    return words, held


class PlainHouse:
    """A house as the tests count it: it remembers what was done, and says itself where each row goes.

    Its disk may stop in a deed; with a copy of it the house goes on from what it remembers.
    """

    def __init__(self, disk):
        self.disk = disk
        self.table, self.held = {}, {}
        self.spots, self.words = {}, {}
        self.ends = {True: None, False: None}
        self.following = self.marks = self.carried = 0
        self.placed = []

    def go_on(self):
        """Go on with a copy of the disk, on which some of the placed rows may be emptied."""
        self.disk = self.disk.copied()
        self.placed = [one for one in self.placed if self.disk.told(*one[1:]) is not None]

    def empties(self):
        return [stretch for stretch in range(self.disk.stretches()) if self.disk.next_place(stretch) == 0]

    def free_places(self, is_hot):
        end = self.ends[is_hot]
        return 0 if end is None else self.disk.places() - self.disk.next_place(end)

    def room(self):
        return self.free_places(True) + self.disk.places() * max(0, len(self.empties()) - 1)

    def closed(self):
        stretches = range(self.disk.stretches())
        return [one for one in stretches if self.disk.next_place(one) > 0 and one not in self.ends.values()]

    def living(self):
        return all_due(self.table, self.held)[2]

    def living_in(self, stretch):
        return sorted((birth for birth in self.living() if self.spots[birth][0] == stretch), key=self.spots.get)

    def told(self):
        """What the state is due to tell."""
        spots = [(birth, *self.spots[birth]) for birth in self.living()]
        return all_due(self.table, self.held), spots, self.following, self.marks

    def all_words(self):
        """What words_of is due to tell."""
        tables = [self.table, *self.held.values()]
        words = [{file: [self.words[birth] for birth in births] for file, births in one.items()} for one in tables]
        return words[0], dict(zip(self.held, words[1:]))

    def write(self, row):
        is_hot = row[0] != "carry"
        stretch = self.ends[is_hot] if self.free_places(is_hot) else self.empties()[0]
        place = self.disk.write(stretch, row_text_of(row))
        self.ends[is_hot] = stretch
        self.following = row[1] + 1
        self.placed.append((row, stretch, place))
        return stretch, place

    def put(self, file, pairs):
        first, last = self.following, self.following + len(pairs) - 1
        rows = [("put", number, first, number == last, file, *pair) for number, pair in enumerate(pairs, start=first)]
        for row in rows:
            self.spots[row[1]] = self.write(row)
            self.words[row[1]] = row[6]
        for row in rows:
            do_to_tables(self.table, self.held, row)

    def do(self, kind, *parts):
        """A cut, a hold, a free."""
        row = (kind, self.following, *parts)
        self.write(row)
        do_to_tables(self.table, self.held, row)

    def mark(self):
        told = self.told()
        self.disk.put_side(self.marks % 2, sealed(mark_body(self.table, self.held, *told[1:])))
        self.marks += 1

    def clean(self, stretch):
        for birth in self.living_in(stretch):
            self.spots[birth] = self.write(("carry", self.following, birth, self.words[birth]))
            self.carried += 1
        self.mark()
        self.disk.empty(stretch)
        self.placed = [one for one in self.placed if one[1] != stretch]

    def cleanable(self):
        """The closed stretches whose living rows find a place."""
        free = self.free_places(False) + self.disk.places() * len(self.empties())
        return [stretch for stretch in self.closed() if len(self.living_in(stretch)) <= free]

    def worth(self, stretch):
        """The worth of a closed stretch."""
        numbers = [row[1] for row, at, place in self.placed if at == stretch]
        places, living = self.disk.places(), len(self.living_in(stretch))
        return Fraction((places - living) * (self.following - max(numbers, default=0)), places + living)

    def best(self, kind):
        """The best closed stretch by "worth" or by "least"."""
        if kind == "worth":
            return max(self.closed(), key=lambda stretch: (self.worth(stretch), -stretch), default=None)
        return min(self.closed(), key=lambda stretch: (len(self.living_in(stretch)), stretch), default=None)

    def refusal(self, deed):
        """The refusal that is due of a deed while the disk does not stop, None where it is done."""
        kind, parts = deed[0], deed[1:]
        if kind == "mark":
            return None
        if kind == "clean":
            return NotClosed if parts[0] not in self.closed() else None if parts[0] in self.cleanable() else NoRoom
        many = len(self.table.get(parts[0], []))
        rows = 1
        if kind == "put":
            rows = len(parts[1])
            for place, word in parts[1]:
                if not 0 <= place <= many:
                    return NoPlace
                many = max(many, place + 1)
        elif kind == "cut" and (many == 0 or parts[1] > many):
            return NoPlace if many else NoFile
        elif kind == "hold" and parts[0] in self.held:
            return HeldAlready
        elif kind == "free" and parts[0] not in self.held:
            return NotHeld
        return NoRoom if rows > self.room() else None

    def some_deed(self, chance):
        """A deed that is not refused, as its name and what is handed in with it."""
        deeds, room = [("mark",)], self.room()
        if room:
            file = chance.choice(NAMES)
            many = len(self.table.get(file, []))
            deeds += [("put", file, some_pairs(chance, many, min(room, 8)))] * 8
            deeds += [("cut", file, chance.randint(0, many))] * (many > 0)
            name = chance.choice(NAMES)
            if name in self.held:
                deeds += [("free", name)] * 3
            elif len(self.held) < 3:
                deeds.append(("hold", name))
        cleanable = self.cleanable()
        if cleanable:
            deeds += [("clean", chance.choice(cleanable))] * (2 if room > 4 else 12)
        return chance.choice(deeds)

    def walk(self, chance, how_often, most):
        """Do a deed by chance, now and then with a stop behind less than so many signs, and tell whether it stopped.

        Behind a stop the house goes on with a copy of its disk.
        """
        if chance.random() < how_often:
            self.disk.stop(chance.randrange(most))
        try:
            self.do_deed(self.some_deed(chance))
        except Stopped:
            self.go_on()
            return True
        return False

    def do_deed(self, deed):
        """Do a deed as some_deed tells it."""
        if deed[0] in ("put", "mark", "clean"):
            getattr(self, deed[0])(*deed[1:])
        else:
            self.do(*deed)


def any_deed(chance, stretches):
    """A deed that may be refused, as its name and what is handed in with it; of a disk of so many stretches."""
    name, number = chance.choice(NAMES[:4]), chance.randrange(4)
    kind = chance.choice(("put", "put", "cut", "hold", "free", "clean"))
    if kind == "put":
        return kind, name, [(chance.randrange(-1, 5), chance.choice(WORDS)) for turn in range(chance.randint(1, 8))]
    if kind == "clean":
        return kind, chance.randrange(-1, stretches + 1)
    return (kind, name, number) if kind == "cut" else (kind, name)


def some_pairs(chance, many, most):
    """One to so many pairs for a file of so many places."""
    pairs = []
    for turn in range(chance.randint(1, chance.randint(1, most))):
        place = chance.randint(max(0, many - 3), min(many, 59))
        many = max(many, place + 1)
        pairs.append((place, chance.choice(WORDS) + str(chance.randrange(1000)) * chance.randrange(3)))
    return pairs

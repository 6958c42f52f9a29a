"""What the tests count with by themselves, apart from the program: plain tables, their texts, sums.

A table is a dict of files: by name the list of its births. What is held is a dict of such tables by name.
"""

import re

from cleanrows.files import Files

GREATEST = 10 ** 18 - 1
SIGNS = [chr(code) for code in range(32, 127)] + ["\t", "\n"]
NO_TEXTS = (
    None, True, False, 0, 1, -1, 10 ** 18, b"", b"0 0", b"mark 0 0 0 0 0 5393;", [], ["0 0"], ["0", "0"], (), ("0 0",),
    {}, {"0": "0"}, {"0 0"}, object(), str, len, Files(), ValueError("0 0"),
)

# Tables and what is held with them: none, few, many, alike births, births of one and of eighteen figures.
SAMPLES = (
    ({}, {}),
    ({"a": [0]}, {}),
    ({"a": [1, 0], "b": [0]}, {}),
    ({"zzzzzz": [GREATEST], "a": [GREATEST, GREATEST], "ab": [10 ** 17]}, {}),
    ({}, {"h": {}}),
    ({"a": [7]}, {"h": {}, "g": {"a": [7]}}),
    ({"b": [5, 6, 7], "a": [12]}, {"old": {"b": [5, 2], "c": [3]}, "a": {"b": [1]}}),
    ({"a": [3]}, {"d": {"a": [3]}, "c": {"a": [3], "b": [3]}, "b": {}, "abcdef": {"zz": [GREATEST, 0, 3]}}),
)


def counted_sum(text):
    """The sum of point 6."""
    return sum(at * ord(sign) for at, sign in zip(range(1, len(text) + 1), text)) % 65521


def sealed(body):
    """A body that may be none, with its right sum behind it."""
    return f"{body}{counted_sum(body)};"


def files_of(table, held):
    """Files with such a table, and such tables held."""
    files = Files()
    for name in held:
        fill(files, held[name])
        files.hold(name)
        for file in files.names():
            files.cut(file, 0)
    fill(files, table)
    return files


def fill(files, table):
    for file, births in table.items():
        for place, birth in enumerate(births):
            files.put(file, place, birth)


def table_of(files):
    """The table that files tell, their order kept by the dict."""
    return {file: [files.birth(file, place) for place in range(files.many(file))] for file in files.names()}


def held_of(files):
    """The tables that are held in files."""
    return {name: table_of(files.of_held(name)) for name in files.held()}


def all_told(files):
    """All that files tell, as lists, so that the order counts too."""
    held = [(name, list(table_of(files.of_held(name)).items())) for name in files.held()]
    return list(table_of(files).items()), held, files.living()


def all_due(table, held):
    """All that files with such a table and such tables held must tell."""
    living = {birth for one in [table, *held.values()] for births in one.values() for birth in births}
    return ordered(table), [(name, ordered(held[name])) for name in sorted(held)], sorted(living)


def ordered(table):
    return [(file, list(table[file])) for file in sorted(table)]


def table_text(table):
    parts = [str(len(table))]
    for file in sorted(table):
        parts += [file, str(len(table[file])), *map(str, table[file])]
    return " ".join(parts)


def text_of(table, held):
    """The text of point 12."""
    parts = [table_text(table), str(len(held))]
    for name in sorted(held):
        parts += [name, table_text(held[name])]
    return " ".join(parts)


def parsed_table(words):
    table = {}
    for turn in range(int(words.pop(0))):
        file = words.pop(0)
        table[file] = [int(words.pop(0)) for place in range(int(words.pop(0)))]
    return table


def parsed(words):
    """The table and what is held that words tell, which are taken from their list; all sorts of words will do."""
    table = parsed_table(words)
    held = {}
    for turn in range(int(words.pop(0))):
        name = words.pop(0)
        held[name] = parsed_table(words)
    return table, held


def is_sound(table, held):
    """Whether a table and what is held keep the bounds of points 5 and 12."""
    names = [*table, *held, *(file for one in held.values() for file in one)]
    rows = [births for one in [table, *held.values()] for births in one.values()]
    return (
        all(re.fullmatch("[a-z]{1,6}", name) for name in names)
        and all(births and all(0 <= birth <= GREATEST for birth in births) for births in rows))


def read_text(text):
    """The table and what is held that a text of point 12 tells; None where it is none."""
    words = text.split(" ")
    try:
        table, held = parsed(words)
    except (ValueError, IndexError):
        return None
    return (table, held) if is_sound(table, held) and text_of(table, held) == text else None


def spoilt_words(text):
    """Texts that come from one by spoiling it word by word; some of them may be texts of something else."""
    words = text.split(" ")
    for at, word in enumerate(words):
        for other in spoilt_word(word):
            yield " ".join(words[:at] + other + words[at + 1:])
        for to in range(at):
            exchanged = list(words)
            exchanged[at], exchanged[to] = exchanged[to], exchanged[at]
            yield " ".join(exchanged)


def spoilt_word(word):
    yield []
    yield [word, word]
    for other in ("", " ", "0", "1", "2", "a", "b", "zzzzzz", "A", "\n", "\t", "-1", "1" + "0" * 18, "9" * 18, "abcdefg"):
        yield [other]
        yield [other, word]
        yield [word, other]
    for ahead in ("0", "00", "+", "-", " ", "\n", "1_", "A", "1", "a"):
        yield [ahead + word]
    for behind in (" ", "\n", "\t", ".", ".0", "_1", "A", "0" * 18, "abcdef", ";", ","):
        yield [word + behind]


def spoilt_signs(text, signs=SIGNS):
    """Texts that come from one by taking out, exchanging and putting in a sign."""
    for at in range(len(text)):
        yield text[:at] + text[at + 1:]
        for sign in signs:
            if sign != text[at]:
                yield text[:at] + sign + text[at + 1:]
    for at in range(len(text) + 1):
        for sign in signs:
            yield text[:at] + sign + text[at:]

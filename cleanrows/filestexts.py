"""Files written as a text, and read again (point 12)."""

from cleanrows.errors import NoFiles
from cleanrows.files import Files
from cleanrows.parts import NoPart, Words


def files_text(files):
    """The text that files are written as."""
    words = table_words(files)
    held = files.held()
    words.append(str(len(held)))
    for name in held:
        words.append(name)
        words.extend(table_words(files.of_held(name)))
    return " ".join(words)


def table_words(files):
    """The words that files are written as, without what is held."""
    names = files.names()
    words = [str(len(names))]
    for name in names:
        many = files.many(name)
        words.extend([name, str(many)])
        words.extend([str(files.birth(name, place)) for place in range(many)])
    return words


def read_files(text):
    """The files that are written as this text; NoFiles, of anything else."""
    if not isinstance(text, str):
        raise NoFiles("this is no text")
    words = Words(text)
    try:
        files = take_files(words)
        words.take_end()
    except NoPart:
        raise NoFiles("no files are written as this text")
    return files


def take_files(words):
    """The files that the next words tell, with what is held; further words may stand behind."""
    files = take_table(words)
    name = ""
    for number in range(words.take_number()):
        name = take_later_name(words, name)
        files.keep(name, take_table(words))
    return files


def take_table(words):
    """The files that the next words tell, without what is held."""
    files = Files()
    name = ""
    for number in range(words.take_number()):
        name = take_later_name(words, name)
        many = words.take_number()
        if many == 0:
            raise NoPart("a file has one place at least")
        for place in range(many):
            files.put(name, place, words.take_number())
    return files


def take_later_name(words, name):
    """The next word, where it is a name that is ordered behind this one."""
    later = words.take_name()
    if later <= name:
        raise NoPart("names stand in order, each once")
    return later

"""Files: names with places, each of which has a birth, and what of them is held (points 10 and 11)."""

from cleanrows.errors import HeldAlready, NoFile, NoPlace, NotHeld
from cleanrows.parts import is_within


class Files:
    """Files; what is done to them changes them alone."""

    def __init__(self):
        # By file a tuple, which is never changed but put anew: so a copy may share it.
        self.births = {}
        # By held name files of their own, to which nothing is done and which nobody is handed.
        self.kept = {}

    def names(self):
        """The files, as texts are ordered."""
        return sorted(self.births)

    def many(self, file):
        """How many places a file has, 0 where it is none."""
        return len(self.births.get(file, ()))

    def birth(self, file, place):
        """The birth at a place of a file."""
        self.refuse_if_none(file)
        if not is_within(place, 0, self.many(file) - 1):
            raise NoPlace("this file does not have this place")
        return self.births[file][place]

    def put(self, file, place, birth):
        """Put a birth at a place of a file, or at the first one behind its places."""
        if not is_within(place, 0, self.many(file)):
            raise NoPlace("this is neither a place of this file nor the first one behind")
        births = self.births.get(file, ())
        self.births[file] = births[:place] + (birth,) + births[place + 1:]

    def cut(self, file, many):
        """Leave a file its first so many places; without a place it is none."""
        self.refuse_if_none(file)
        if not is_within(many, 0, self.many(file)):
            raise NoPlace("this file does not have so many places")
        if many == 0:
            del self.births[file]
        else:
            self.births[file] = self.births[file][:many]

    def hold(self, name):
        """Hold all files, as they are now, under a name."""
        if name in self.kept:
            raise HeldAlready("this name is held")
        self.keep(name, self)

    def free(self, name):
        """Hold a name no more."""
        self.refuse_if_not_held(name)
        del self.kept[name]

    def held(self):
        """The names that are held, as texts are ordered."""
        return sorted(self.kept)

    def of_held(self, name):
        """The files that are held under a name, as files of their own with nothing held."""
        self.refuse_if_not_held(name)
        return self.kept[name].bare()

    def living(self):
        """The births that stand in a file or in a held one, rising, each once."""
        tables = [self.births] + [files.births for files in self.kept.values()]
        return sorted({birth for table in tables for births in table.values() for birth in births})

    def copied(self):
        """Files just like these, apart from them."""
        other = self.bare()
        other.kept = dict(self.kept)
        return other

    def bare(self):
        """These files with nothing held, apart from them."""
        other = Files()
        other.births = dict(self.births)
        return other

    def keep(self, name, files):
        """Hold, under a name that is not held, files that may be others than these."""
        self.kept[name] = files.bare()

    def refuse_if_none(self, file):
        """Refuse what is no file."""
        if file not in self.births:
            raise NoFile("this is no file")

    def refuse_if_not_held(self, name):
        """Refuse a name that is not held."""
        if name not in self.kept:
            raise NotHeld("this name is not held")

"""The interface of ../shared/DOC.md: its names and arguments, as they are written there."""

import importlib
import inspect
import unittest

FUNCTIONS = """
    rowtexts row_text row; rowtexts read_row text; rowtexts sum_of text; filestexts files_text files;
    filestexts read_files text; states first_state; marks mark_text state; marks read_mark text; ends whole_rows disk;
    ends end_of disk is_hot; ends next_stretch disk is_hot; ends empties disk; risings risen disk;
    risings risen_all disk; living living_in state stretch; living waste disk state stretch; living closed disk;
    living last_number disk stretch; worths worth disk state stretch; worths best disk state kind; houses house_of disk;
    plans room disk; plans cleaned disk state stretches; plans plan disk state use; plans paper disk state use
"""

METHODS = """
    disks.Disk __init__ stretches places; disks.Disk stretches; disks.Disk places; disks.Disk next_place stretch;
    disks.Disk told stretch place; disks.Disk write stretch text; disks.Disk empty stretch; disks.Disk put_side k text;
    disks.Disk side k; disks.Disk signs; disks.Disk stop many; disks.Disk copied;
    files.Files __init__; files.Files names; files.Files many file; files.Files birth file place;
    files.Files put file place birth; files.Files cut file many; files.Files hold name; files.Files free name;
    files.Files held; files.Files of_held name; files.Files living; files.Files copied;
    states.State __init__ files spots next_number mark_number; states.State files; states.State spots;
    states.State spot birth; states.State next_number; states.State mark_number;
    houses.House __init__ disk; houses.House put file pairs; houses.House cut file many; houses.House hold name;
    houses.House free name; houses.House mark; houses.House clean stretch; houses.House read file place;
    houses.House read_held name file place; houses.House files; houses.House state; houses.House disk;
    houses.House carried; desk.Desk __init__ stretches places; desk.Desk take text; desk.Desk house
"""


def listed(text):
    return [row.split() for row in text.split(";")]


class InterfaceTest(unittest.TestCase):

    def test_functions(self):
        for module, name, *arguments in listed(FUNCTIONS):
            function = getattr(importlib.import_module("cleanrows." + module), name)
            self.assertTrue(inspect.isfunction(function), name)
            self.assertEqual(list(inspect.signature(function).parameters), arguments, name)

    def test_methods(self):
        for owner, name, *arguments in listed(METHODS):
            module, kind = owner.split(".")
            method = getattr(getattr(importlib.import_module("cleanrows." + module), kind), name)
            self.assertEqual(list(inspect.signature(method).parameters), ["self", *arguments], (owner, name))


if __name__ == "__main__":
    unittest.main()

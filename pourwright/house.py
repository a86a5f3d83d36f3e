"""A house of drives, on which runs lie in a row and are poured from drive to drive."""

from pourwright.bounds import check_drives, is_below
from pourwright.errors import Bare, NoDrive
from pourwright.pours import check_rising, pour


class House:
    def __init__(self, drives):
        check_drives(drives)
        self.laid = [[] for drive in range(drives)]
        self.poured = 0
        self.history = []

    def lay(self, drive, run):
        self.check_drive(drive)
        # The one run that is handed in has the number 0.
        check_rising([run])
        self.laid[drive].append(list(run))
        self.history.append(("lay", drive, len(run)))

    def pour(self, sources, target):
        self.check_sources(sources)
        self.check_drive(target)
        if target in sources:
            raise NoDrive("the target is one of the sources")
        self.check_not_bare(sources)
        row = pour([self.laid[drive][0] for drive in sources])[0]
        for drive in sources:
            self.laid[drive].pop(0)
        self.laid[target].append(row)
        self.poured += len(row)
        self.history.append(("pour", tuple(sources), target, len(row)))
        return list(row)

    def runs(self, drive):
        self.check_drive(drive)
        return [list(run) for run in self.laid[drive]]

    def lying(self):
        return tuple([len(runs) for runs in self.laid])

    def moved_items(self):
        return self.poured

    def deeds(self):
        return list(self.history)

    def check_drive(self, thing):
        if not is_below(thing, len(self.laid)):
            raise NoDrive("this is no number of a drive")

    def check_sources(self, thing):
        if not isinstance(thing, (list, tuple)) or len(thing) < 2:
            raise NoDrive("sources are a list or a tuple of two or more drives")
        for drive in thing:
            self.check_drive(drive)
        if len(set(thing)) < len(thing):
            raise NoDrive("a drive stands twice among the sources")

    def check_not_bare(self, sources):
        for drive in sources:
            if not self.laid[drive]:
                raise Bare(drive)

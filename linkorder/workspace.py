"""Workspaces: a library and a line that can be changed, and every change undone."""

from linkorder.errors import InvalidLine, InvalidMember, InvalidName, NothingToUndo, UnknownName
from linkorder.libraries import Library, is_member, is_name
from linkorder.linking import MOST_ITEMS, archives_in, is_line
from linkorder.repairs import pruned, repaired
from linkorder.serving import unread_chain


def in_order(rows):
    """Return archives or members in the order of their names, those of one name in the order in which they stand."""
    return tuple(sorted(rows, key=lambda row: row[0]))


def with_member(archives, home, member):
    """Return the archives with one more member in one of them."""
    return tuple([
        (name, in_order([*members, member]) if name == home else members)
        for name, members in archives
    ])


def without_member(archives, gone):
    """Return the archives without one member."""
    return tuple([(name, tuple([member for member in members if member[0] != gone])) for name, members in archives])


def with_needs(library, name, needs):
    """Return the archives of a library with other needs of one member."""
    home = library.archive_of(name)
    defines = library.member(name)[1]
    return with_member(without_member(library.archives, name), home, (name, defines, needs))


def line_without(line, gone):
    """Return a line without one archive; of a group of two the other one is left alone."""
    kept = [tuple([name for name in archives_in(item) if name != gone]) for item in line]
    return tuple([names if len(names) > 1 else names[0] for names in kept if names])


class Workspace:
    """A library, a line, and what they were before each edit that is not undone."""

    def __init__(self, archives=()):
        self.present = (Library(archives), ())
        self.past = []

    def library(self):
        """Return the library."""
        return self.present[0]

    def line(self):
        """Return the line."""
        return self.present[1]

    def changes(self):
        """Return the number of edits that are not undone."""
        return len(self.past)

    def serves(self):
        """Tell whether the line serves."""
        return unread_chain(self.library(), self.line()) is None

    def copy(self):
        """Return an independent workspace in the same state."""
        twin = Workspace()
        twin.present = self.present
        twin.past = list(self.past)
        return twin

    def change(self, archives, line):
        """Take these archives and this line, if the archives are valid; every edit ends here."""
        library = Library(archives)
        self.past.append(self.present)
        self.present = (library, line)

    def member_to_edit(self, name, symbol):
        """Return the member with this name, if it is there and its need can be a symbol."""
        member = self.library().member(name)
        if member is None:
            raise UnknownName(name)
        if not is_name(symbol):
            raise InvalidName(symbol)
        return member

    def add_archive(self, name):
        """Add an archive without members."""
        if not is_name(name):
            raise InvalidName(name)
        self.change(in_order([*self.library().archives, (name, ())]), self.line())

    def remove_archive(self, name):
        """Remove an archive with its members, from the line, too."""
        if name not in self.library().names():
            raise UnknownName(name)
        archives = [archive for archive in self.library().archives if archive[0] != name]
        self.change(tuple(archives), line_without(self.line(), name))

    def add_member(self, archive, member):
        """Add a member to an archive."""
        if archive not in self.library().names():
            raise UnknownName(archive)
        if not is_member(member):
            raise InvalidMember(member)
        self.change(with_member(self.library().archives, archive, member), self.line())

    def remove_member(self, name):
        """Remove a member."""
        if self.library().member(name) is None:
            raise UnknownName(name)
        self.change(without_member(self.library().archives, name), self.line())

    def add_need(self, name, symbol):
        """Let a member need a symbol."""
        needs = self.member_to_edit(name, symbol)[2]
        more = tuple(sorted(set([*needs, symbol])))
        self.change(with_needs(self.library(), name, more), self.line())

    def remove_need(self, name, symbol):
        """Let a member need a symbol no more."""
        needs = self.member_to_edit(name, symbol)[2]
        fewer = tuple([need for need in needs if need != symbol])
        self.change(with_needs(self.library(), name, fewer), self.line())

    def set_line(self, line):
        """Replace the line."""
        if not is_line(self.library(), line):
            raise InvalidLine(line)
        self.change(self.library().archives, line)

    def repair(self):
        """Replace the line by the repaired one and return by how many items it is longer."""
        line = self.line()
        longer = repaired(self.library(), line)
        if len(longer) > MOST_ITEMS:
            raise InvalidLine(line)
        self.change(self.library().archives, longer)
        return len(longer) - len(line)

    def prune(self):
        """Replace the line by the pruned one and return by how many items it is shorter."""
        line = self.line()
        shorter = pruned(self.library(), line)
        self.change(self.library().archives, shorter)
        return len(line) - len(shorter)

    def undo(self):
        """Restore the library and the line before the last edit that is not undone."""
        if not self.past:
            raise NothingToUndo()
        self.present = self.past.pop()

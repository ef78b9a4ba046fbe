"""Libraries: archives whose members define and need symbols."""

from linkorder.errors import InvalidLibrary

NAME_CHARACTERS = "abcdefghijklmnopqrstuvwxyz0123456789"
LONGEST_NAME = 8
MOST_DEFINES = 6
MOST_NEEDS = 8
MOST_ARCHIVES = 8
MOST_MEMBERS = 24


def is_name(value):
    """Tell whether a value is a name."""
    if not isinstance(value, str) or not 1 <= len(value) <= LONGEST_NAME:
        return False
    return all([character in NAME_CHARACTERS for character in value])


def is_natural(value):
    """Tell whether a value is an integer from 0."""
    return isinstance(value, int) and not isinstance(value, bool) and value >= 0


def are_ascending(names):
    """Tell whether each name is less than the next one."""
    return all([name < later for name, later in zip(names, names[1:])])


def are_different(names):
    """Tell whether no name stands twice."""
    return len(set(names)) == len(names)


def are_symbols(value, least, most):
    """Tell whether a value is an ascending tuple of at least and at most so many symbols."""
    if not isinstance(value, tuple) or not least <= len(value) <= most:
        return False
    # Only names can be compared, so this is known before the order is looked at.
    return all([is_name(symbol) for symbol in value]) and are_ascending(value)


def is_member(value):
    """Tell whether a value is a member."""
    if not isinstance(value, tuple) or len(value) != 3:
        return False
    name, defines, needs = value
    return is_name(name) and are_symbols(defines, 1, MOST_DEFINES) and are_symbols(needs, 0, MOST_NEEDS)


def is_archive(value):
    """Tell whether a value is an archive, as far as it can be told without the others."""
    if not isinstance(value, tuple) or len(value) != 2:
        return False
    name, members = value
    if not is_name(name) or not isinstance(members, tuple):
        return False
    return all([is_member(member) for member in members]) and are_ascending([member[0] for member in members])


def are_archives(value):
    """Tell whether a value is the archives of a library."""
    if not isinstance(value, tuple) or len(value) > MOST_ARCHIVES:
        return False
    if not all([is_archive(archive) for archive in value]):
        return False
    members = [member for archive in value for member in archive[1]]
    return (
        are_ascending([archive[0] for archive in value])
        and len(members) <= MOST_MEMBERS
        and are_different([member[0] for member in members])
        and are_different([symbol for member in members for symbol in member[1]])
    )


def looked_up(table, name):
    """Return what a table has for a name, None for any other value."""
    # A value that is not a string may be one that no table can be asked for, such as a list.
    return table.get(name) if isinstance(name, str) else None


class Library:
    """Archives that are known to be valid, and who defines what in them."""

    def __init__(self, archives):
        if not are_archives(archives):
            raise InvalidLibrary(archives)
        self.archives = archives
        self.rows = {member[0]: member for archive in archives for member in archive[1]}
        self.homes = {member[0]: archive[0] for archive in archives for member in archive[1]}
        self.sources = {symbol: name for name in self.rows for symbol in self.rows[name][1]}

    def __eq__(self, other):
        return isinstance(other, Library) and self.archives == other.archives

    def names(self):
        """Return the names of the archives, ascending."""
        return tuple([archive[0] for archive in self.archives])

    def members(self):
        """Return the names of all members, ascending."""
        return tuple(sorted(self.rows))

    def member(self, name):
        """Return the member with this name, or None."""
        return looked_up(self.rows, name)

    def archive_of(self, name):
        """Return the name of the archive that has the member with this name, or None."""
        return looked_up(self.homes, name)

    def definer(self, symbol):
        """Return the name of the member that defines the symbol, or None."""
        return looked_up(self.sources, symbol)

"""Linking: what a linker pulls along a line, and what is left undefined or is defined twice."""

from linkorder.errors import InvalidLine, InvalidProgram
from linkorder.libraries import are_ascending
from linkorder.programs import is_program, needed_symbols, unmet_and_doubled

MOST_ITEMS = 200


def is_group(names, value):
    """Tell whether a value is an ascending tuple of two or more of these names."""
    if not isinstance(value, tuple) or len(value) < 2:
        return False
    # Only names can be compared, so this is known before the order is looked at.
    return all([name in names for name in value]) and are_ascending(value)


def is_line(library, value):
    """Tell whether a value is a line of the library."""
    if not isinstance(value, tuple) or len(value) > MOST_ITEMS:
        return False
    names = library.names()
    return all([item in names or is_group(names, item) for item in value])


def is_plain_line(library, value):
    """Tell whether a value is a line of the library without groups."""
    return is_line(library, value) and all([isinstance(item, str) for item in value])


def archives_in(item):
    """Return the names of the archives of an item."""
    return (item,) if isinstance(item, str) else item


def next_members(library, item, program, pulled):
    """Return the names of the members of an item that define a symbol which is now needed and not defined."""
    members = [library.member(name) for name in pulled]
    defines = program[0]
    # No symbol has two definers: it is not defined as long as neither the program nor a pulled member does it.
    wanted = [library.definer(symbol) for symbol in needed_symbols(program, members) if symbol not in defines]
    homes = archives_in(item)
    return sorted({name for name in wanted if library.archive_of(name) in homes and name not in pulled})


def pulled_at(library, item, program, pulled):
    """Return the names of all members that are pulled at an item, after those that are pulled already."""
    here = []
    fresh = next_members(library, item, program, pulled)
    while fresh:
        here.extend(fresh)
        fresh = next_members(library, item, program, pulled + here)
    return here


def link(library, line, program):
    """Return what is pulled at each item, what is undefined at the end, and what is defined twice."""
    if not is_line(library, line):
        raise InvalidLine(line)
    if not is_program(program):
        raise InvalidProgram(program)
    rows = []
    pulled = []
    for item in line:
        here = pulled_at(library, item, program, pulled)
        rows.append(tuple(sorted(here)))
        pulled.extend(here)
    undefined, duplicates = unmet_and_doubled(program, [library.member(name) for name in pulled])
    return tuple(rows), undefined, duplicates


def links(library, line, program):
    """Tell whether the line leaves nothing undefined and nothing defined twice."""
    return link(library, line, program)[1:] == ((), ())

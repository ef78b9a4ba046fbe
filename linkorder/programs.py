"""Programs: which members they need, and whether they can be built."""

from linkorder.errors import InvalidProgram
from linkorder.libraries import are_symbols

MOST_SYMBOLS = 200


def is_program(value):
    """Tell whether a value is a program."""
    if not isinstance(value, tuple) or len(value) != 2:
        return False
    defines, needs = value
    return are_symbols(defines, 0, MOST_SYMBOLS) and are_symbols(needs, 0, MOST_SYMBOLS)


def closure(library, program):
    """Return the names of the members of the program's closure, ascending."""
    if not is_program(program):
        raise InvalidProgram(program)
    defines, needs = program
    reached = set()
    waiting = list(needs)
    while waiting:
        symbol = waiting.pop()
        name = library.definer(symbol)
        # What the program defines itself brings in no member, whoever needs it.
        if name is not None and name not in reached and symbol not in defines:
            reached.add(name)
            waiting.extend(library.member(name)[2])
    return tuple(sorted(reached))


def obstacles(library, program):
    """Return the symbols that nothing defines and those that are defined twice, both ascending."""
    # The closure comes first because it refuses what is not a program.
    members = [library.member(name) for name in closure(library, program)]
    defines, needs = program
    supplied = {symbol for member in members for symbol in member[1]}
    needed = {symbol for symbols in [needs] + [member[2] for member in members] for symbol in symbols}
    undefined = [symbol for symbol in sorted(needed) if symbol not in defines and symbol not in supplied]
    duplicates = [symbol for symbol in defines if symbol in supplied]
    return tuple(undefined), tuple(duplicates)


def is_buildable(library, program):
    """Tell whether the program can be built on the library."""
    return obstacles(library, program) == ((), ())

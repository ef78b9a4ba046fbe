"""Programs: which members they need, and whether they can be built."""

from linkorder.errors import InvalidProgram
from linkorder.libraries import are_symbols

MOST_SYMBOLS = 200


def is_program(value):
    """Tell whether a value is a program."""
    if not isinstance(value, tuple) or len(value) != 2:
        return False
    defines, needs = value
    return are_symbols(defines, 0, MOST_SYMBOLS) and are_symbols(needs, 0, MOST_SYMBOLS)


def closure(library, program):
    """Return the names of the members of the program's closure, ascending."""
    if not is_program(program):
        raise InvalidProgram(program)
    defines, needs = program
    reached = set()
    waiting = list(needs)
    while waiting:
        symbol = waiting.pop()
        name = library.definer(symbol)
        # What the program defines itself brings in no member, whoever needs it.
        if name is not None and name not in reached and symbol not in defines:
            reached.add(name)
            waiting.extend(library.member(name)[2])
    return tuple(sorted(reached))


def needed_symbols(program, members):
    """Return the symbols that the program and the members need, as often as they do."""
    return list(program[1]) + [symbol for member in members for symbol in member[2]]


def unmet_and_doubled(program, members):
    """Return the needed symbols that nothing defines and those that the program and a member define, ascending."""
    defines = program[0]
    supplied = {symbol for member in members for symbol in member[1]}
    needed = sorted(set(needed_symbols(program, members)))
    undefined = [symbol for symbol in needed if symbol not in defines and symbol not in supplied]
    duplicates = [symbol for symbol in defines if symbol in supplied]
    return tuple(undefined), tuple(duplicates)


def obstacles(library, program):
    """Return the symbols that nothing defines and those that are defined twice, both ascending."""
    # The closure refuses what is not a program.
    names = closure(library, program)
    return unmet_and_doubled(program, [library.member(name) for name in names])


def is_buildable(library, program):
    """Tell whether the program can be built on the library."""
    return obstacles(library, program) == ((), ())

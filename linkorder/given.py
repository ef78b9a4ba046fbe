"""Lines for given programs: the shortest line that links a few programs, whatever else it fails to link."""

from linkorder.errors import InvalidPrograms
from linkorder.linking import pulled_at
from linkorder.programs import is_buildable, is_program
from linkorder.shortest import distances, least_line, moves_from

MOST_PROGRAMS = 4


def are_programs(value):
    """Tell whether a value is a tuple of as many programs as are allowed."""
    if not isinstance(value, tuple) or not 1 <= len(value) <= MOST_PROGRAMS:
        return False
    return all([is_program(program) for program in value])


def pulled_behind(library, program, pulled, archive):
    """Return the names of all members that are pulled for a program after one more archive, ascending."""
    return tuple(sorted([*pulled, *pulled_at(library, archive, program, list(pulled))]))


def pulled_moves(library, program):
    """Return for each set of pulled members those to which the archives lead, in the order of their names."""
    names = library.names()
    return moves_from((), lambda pulled: tuple([pulled_behind(library, program, pulled, name) for name in names]))


def joint_moves(tables, state):
    """Return the tuples of sets, one for each program, to which the archives lead from such a tuple."""
    rows = [table[pulled] for table, pulled in zip(tables, state)]
    return tuple(zip(*rows))


def pulled_count(state):
    """Return how many members are pulled for all programs together."""
    return sum([len(pulled) for pulled in state])


def shortest_for(library, programs):
    """Return the least of the shortest lines without groups that link all programs, None if one is not buildable."""
    if not are_programs(programs):
        raise InvalidPrograms(programs)
    if not all([is_buildable(library, program) for program in programs]):
        return None
    # There are at least as many tuples of sets as there are sets for one program, so each search may be refused.
    tables = [pulled_moves(library, program) for program in programs]
    moves = moves_from(((),) * len(programs), lambda state: joint_moves(tables, state))
    # Sets only grow, and a buildable program is linked as soon as no archive makes its set grow.
    order = sorted(moves, key=pulled_count, reverse=True)
    return least_line(library.names(), moves, distances(moves, order))

"""Shortest lines: the states of reading all essential words, and the way to the complete one."""

from linkorder.chains import words
from linkorder.errors import InvalidLine, TooManyStates
from linkorder.linking import is_plain_line

MOST_STATES = 5000


def state_behind(letters, state, archive):
    """Return the state of reading these words to which an archive leads from a state."""
    return tuple([
        read + 1 if read < len(spelled) and spelled[read] == archive else read
        for spelled, read in zip(letters, state)
    ])


def moves_from(start, lead):
    """Return for each state that can be reached, the start first, the tuple of states that lead returns for it."""
    seen = set()
    seen.add(start)
    waiting = [start]
    moves = {}
    while waiting:
        state = waiting.pop()
        moves[state] = lead(state)
        for behind in moves[state]:
            if behind not in seen:
                seen.add(behind)
                waiting.append(behind)
        if len(seen) > MOST_STATES:
            raise TooManyStates()
    return moves


def word_moves(library):
    """Return the moves between the states of the essential words, for the archives in the order of their names."""
    names = library.names()
    essential = words(library)
    start = (0,) * len(essential)
    return moves_from(start, lambda state: tuple([state_behind(essential, state, archive) for archive in names]))


def start_of(moves):
    """Return the state from which all moves come."""
    return list(moves)[0]


def is_last(moves, state):
    """Tell whether no archive leads on from a state: of the words, this is the complete one alone."""
    return all([behind == state for behind in moves[state]])


def last_first(moves):
    """Return the states of words, each one behind those to which archives lead from it."""
    # An archive that changes a state adds letters.
    return sorted(moves, key=sum, reverse=True)


def distances(moves, order):
    """Return for each state the least number of archives that lead from it to the last one; its moves come first."""
    table = {}
    for state in order:
        table[state] = min([table[behind] + 1 for behind in moves[state] if behind != state], default=0)
    return table


def least_line(names, moves, table):
    """Return the least of the shortest lines that lead from the start to the state at distance 0."""
    state = start_of(moves)
    line = []
    while table[state] > 0:
        nearer = [(name, behind) for name, behind in zip(names, moves[state]) if table[behind] < table[state]]
        name, state = nearer[0]
        line.append(name)
    return tuple(line)


def states_along(names, moves, line):
    """Return the states before each item of a line without groups, and the one at its end."""
    states = [start_of(moves)]
    for archive in line:
        states.append(moves[states[-1]][names.index(archive)])
    return states


def shortest_line(library):
    """Return the least of the shortest lines without groups that serve."""
    moves = word_moves(library)
    return least_line(library.names(), moves, distances(moves, last_first(moves)))


def state_after(library, line):
    """Return the state to which the archives of a line lead from the start state."""
    if not is_plain_line(library, line):
        raise InvalidLine(line)
    return states_along(library.names(), word_moves(library), line)[-1]


def distance(library, state):
    """Return the least number of archives that lead from a state to the complete one."""
    moves = word_moves(library)
    return distances(moves, last_first(moves))[state]

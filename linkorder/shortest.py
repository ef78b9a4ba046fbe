"""Shortest lines: the states of reading all essential words, and the way to the complete one."""

from linkorder.chains import words
from linkorder.errors import InvalidLine, TooManyStates
from linkorder.linking import is_plain_line

MOST_STATES = 5000


def start_state(essential):
    """Return the state in which nothing is read."""
    return (0,) * len(essential)


def state_behind(essential, state, archive):
    """Return the state to which an archive leads from a state."""
    return tuple([
        read + 1 if read < len(letters) and letters[read] == archive else read
        for letters, read in zip(essential, state)
    ])


def moves_between(names, essential):
    """Return for each state that can be reached those to which the archives lead from it, in the order of the names."""
    start = start_state(essential)
    seen = set()
    seen.add(start)
    waiting = [start]
    moves = {}
    while waiting:
        state = waiting.pop()
        moves[state] = tuple([state_behind(essential, state, archive) for archive in names])
        for behind in moves[state]:
            if behind not in seen:
                seen.add(behind)
                waiting.append(behind)
        if len(seen) > MOST_STATES:
            raise TooManyStates()
    return moves


def distances(moves):
    """Return for each state the least number of archives that lead from it to the complete one."""
    table = {}
    # An archive that changes a state adds letters, so the states behind one are known before it.
    for state in sorted(moves, key=sum, reverse=True):
        # Only from the complete state no archive leads on.
        table[state] = min([table[behind] + 1 for behind in moves[state] if behind != state], default=0)
    return table


def shortest_line(library):
    """Return the least of the shortest lines without groups that serve."""
    names = library.names()
    essential = words(library)
    moves = moves_between(names, essential)
    table = distances(moves)
    state = start_state(essential)
    line = []
    while table[state] > 0:
        nearer = [(name, behind) for name, behind in zip(names, moves[state]) if table[behind] < table[state]]
        name, state = nearer[0]
        line.append(name)
    return tuple(line)


def state_after(library, line):
    """Return the state to which the archives of a line lead from the start state."""
    if not is_plain_line(library, line):
        raise InvalidLine(line)
    names = library.names()
    essential = words(library)
    moves = moves_between(names, essential)
    state = start_state(essential)
    for archive in line:
        state = moves[state][names.index(archive)]
    return state


def distance(library, state):
    """Return the least number of archives that lead from a state to the complete one."""
    return distances(moves_between(library.names(), words(library)))[state]

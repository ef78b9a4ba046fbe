"""Counting: how many lines of a length serve, and which number each of them has."""

from linkorder.errors import InvalidLine, InvalidNumber
from linkorder.libraries import is_natural
from linkorder.linking import is_plain_line
from linkorder.shortest import is_last, start_of, states_along, word_moves


def empty_counts(moves):
    """Return for each state how many lines without items lead from it to the complete one."""
    return {state: 1 if is_last(moves, state) else 0 for state in moves}


def longer_counts(moves, counts):
    """Return for each state how many lines of one item more than those of the counts lead to the complete one."""
    return {state: sum([counts[behind] for behind in moves[state]]) for state in moves}


def counts_up_to(moves, length):
    """Return the counts of the lines of each length up to this one."""
    rows = [empty_counts(moves)]
    while len(rows) <= length:
        rows.append(longer_counts(moves, rows[-1]))
    return rows


def line_count(library, length):
    """Return the number of lines of this length that serve."""
    moves = word_moves(library)
    return counts_up_to(moves, length)[-1][start_of(moves)]


def first_of_line(ways, counts, number):
    """Return the first archive of the line with a number, the state behind it, and the number of the rest there."""
    for name, behind in ways:
        if number < counts[behind]:
            break
        number -= counts[behind]
    return name, behind, number


def line_at(library, length, number):
    """Return the line with this number among those of this length that serve."""
    names = library.names()
    moves = word_moves(library)
    rows = counts_up_to(moves, length)
    state = start_of(moves)
    if not is_natural(number) or number >= rows[-1][state]:
        raise InvalidNumber(number)
    line = []
    rest = number
    for left in reversed(range(length)):
        name, state, rest = first_of_line(list(zip(names, moves[state])), rows[left], rest)
        line.append(name)
    return tuple(line)


def line_number(library, line):
    """Return the number of a line among those of its length that serve, or None if it does not serve."""
    if not is_plain_line(library, line):
        raise InvalidLine(line)
    names = library.names()
    moves = word_moves(library)
    states = states_along(names, moves, line)
    if not is_last(moves, states[-1]):
        return None
    number = 0
    counts = empty_counts(moves)
    for archive, state in reversed(list(zip(line, states))):
        # The lines that are the same up to here and go on with a lesser archive stand before this one.
        lesser = moves[state][:names.index(archive)]
        number += sum([counts[behind] for behind in lesser])
        counts = longer_counts(moves, counts)
    return number

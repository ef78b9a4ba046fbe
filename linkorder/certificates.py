"""Certificates: what shows that no line without groups is shorter than one that serves."""

from linkorder.chains import chains, is_chain, word_of_chain, words
from linkorder.libraries import is_natural
from linkorder.linking import is_plain_line
from linkorder.serving import serves
from linkorder.shortest import distances, last_first, least_line, state_behind, word_moves


def chains_of_words(library):
    """Return for each essential word the first chain that has it."""
    first = {}
    for chain in chains(library):
        first.setdefault(word_of_chain(library, chain), chain)
    return tuple([first[letters] for letters in words(library)])


def certificate(library):
    """Return a certificate whose line is the shortest line."""
    moves = word_moves(library)
    table = distances(moves, last_first(moves))
    ranks = tuple([(state, table[state]) for state in sorted(moves)])
    return least_line(library.names(), moves, table), chains_of_words(library), ranks


def is_state(letters, value):
    """Tell whether a value has for each of these words a number of its letters."""
    if not isinstance(value, tuple) or len(value) != len(letters):
        return False
    return all([is_natural(read) and read <= len(spelled) for spelled, read in zip(letters, value)])


def is_ranked_state(letters, value):
    """Tell whether a value is a pair of a state and a rank."""
    return isinstance(value, tuple) and len(value) == 2 and is_state(letters, value[0]) and is_natural(value[1])


def are_ranked_states(letters, value):
    """Tell whether a value is a tuple of pairs of a state and a rank, without two pairs of equal states."""
    if not isinstance(value, tuple) or not all([is_ranked_state(letters, pair) for pair in value]):
        return False
    return len({pair[0] for pair in value}) == len(value)


def is_supported(names, letters, table, state):
    """Tell whether a state of rank 0 is given, or one that no archive leads more than one rank down."""
    if table[state] == 0:
        return True
    if state == tuple([len(spelled) for spelled in letters]):
        return False
    # A state that has no rank is as bad as one that is too near to the complete one.
    return all([table.get(state_behind(letters, state, archive), -1) >= table[state] - 1 for archive in names])


def is_certificate(library, value):
    """Tell whether a value is a certificate of a library that has not too many chains."""
    if not isinstance(value, tuple) or len(value) != 3:
        return False
    line, proof, ranks = value
    if not is_plain_line(library, line) or not serves(library, line):
        return False
    if not isinstance(proof, tuple) or not all([is_chain(library, chain) for chain in proof]):
        return False
    letters = [word_of_chain(library, chain) for chain in proof]
    if not are_ranked_states(letters, ranks):
        return False
    table = {state: rank for state, rank in ranks}
    if table.get((0,) * len(letters)) != len(line):
        return False
    return all([is_supported(library.names(), letters, table, state) for state in table])


def shows_shortest(library, value):
    """Tell whether a value is a certificate of the library."""
    # Too many chains are an error even if the value would be refused without a look at them.
    chains(library)
    return is_certificate(library, value)

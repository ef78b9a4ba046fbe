"""Serving: whether a line links every buildable program, and the smallest program that it fails to link."""

from linkorder.chains import chains, is_chain, word_of_chain
from linkorder.errors import InvalidChain, InvalidLine
from linkorder.linking import archives_in, is_line
from linkorder.programs import unmet_and_doubled


def read_along(line, letters):
    """Return how many letters are read along what is known to be a line."""
    at = 0
    for item in line:
        names = archives_in(item)
        while at < len(letters) and letters[at] in names:
            at += 1
    return at


def letters_read(library, line, letters):
    """Return how many letters of a word are read along the line."""
    if not is_line(library, line):
        raise InvalidLine(line)
    return read_along(line, letters)


def unread_chain(library, line):
    """Return the first chain whose word is not read to its end, or None."""
    if not is_line(library, line):
        raise InvalidLine(line)
    for chain in chains(library):
        letters = word_of_chain(library, chain)
        if read_along(line, letters) < len(letters):
            return chain
    return None


def serves(library, line):
    """Tell whether the line links every buildable program."""
    # A program that is not linked lacks a member, and the shortest way to it is a chain that is not read.
    return unread_chain(library, line) is None


def chain_program(library, chain):
    """Return the program whose closure is the chain, and for which it is pulled one by one."""
    if not is_chain(library, chain):
        raise InvalidChain(chain)
    members = [library.member(name) for name in chain]
    needs = (members[0][1][0],)
    # What the chain leaves undefined is left to the program to define.
    return unmet_and_doubled(((), needs), members)[0], needs


def failing_program(library, line):
    """Return a program of the smallest closure that the line fails to link, or None."""
    chain = unread_chain(library, line)
    return None if chain is None else chain_program(library, chain)

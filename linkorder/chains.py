"""Chains: members of which each one uses the next, and the words that their archives spell."""

from linkorder.errors import InvalidChain, TooManyChains
from linkorder.libraries import are_different

MOST_CHAINS = 1000


def used_by(library, name):
    """Return the names of the other members that a member uses, ascending."""
    definers = [library.definer(symbol) for symbol in library.member(name)[2]]
    return sorted({other for other in definers if other is not None and other != name})


def uses(library):
    """Return the pairs of members of which the first one uses the second one, ascending."""
    return tuple([(name, other) for name in library.members() for other in used_by(library, name)])


def uses_only_next(library, names, at):
    """Tell whether, of the members behind it, the one at this place uses the next one and no other."""
    used = used_by(library, names[at])
    return [name for name in names[at + 1:] if name in used] == list(names[at + 1:at + 2])


def is_chain(library, value):
    """Tell whether a value is a chain of the library."""
    if not isinstance(value, tuple) or len(value) == 0:
        return False
    if any([library.member(name) is None for name in value]) or not are_different(value):
        return False
    return all([uses_only_next(library, value, at) for at in range(len(value))])


def word_of_chain(library, chain):
    """Return the word of what is known to be a chain."""
    letters = []
    for name in chain:
        home = library.archive_of(name)
        if letters[-1:] != [home]:
            letters.append(home)
    return tuple(letters)


def word(library, chain):
    """Return the word of a chain."""
    if not is_chain(library, chain):
        raise InvalidChain(chain)
    return word_of_chain(library, chain)


def may_follow(table, chain, name):
    """Tell whether a member that the last one of a chain uses makes the chain a longer one."""
    return name not in chain and not any([name in table[earlier] for earlier in chain[:-1]])


def chains(library):
    """Return all chains, the shorter ones first."""
    table = {name: used_by(library, name) for name in library.members()}
    found = []
    # A chain without its last member is a chain, so those of one length give all of the next, in order.
    longest = [(name,) for name in table]
    while longest:
        found.extend(longest)
        if len(found) > MOST_CHAINS:
            raise TooManyChains()
        longest = [chain + (name,) for chain in longest for name in table[chain[-1]] if may_follow(table, chain, name)]
    return tuple(found)


def is_part(part, whole):
    """Tell whether the one sequence is left of the other after some of its elements are removed."""
    at = 0
    for element in whole:
        if at < len(part) and part[at] == element:
            at += 1
    return at == len(part)


def words(library):
    """Return the essential words, ascending."""
    different = sorted(set([word_of_chain(library, chain) for chain in chains(library)]))
    essential = []
    # A word is only a part of a longer one, and then of a longer one that is essential.
    for letters in sorted(different, key=len, reverse=True):
        if not any([is_part(letters, longer) for longer in essential]):
            essential.append(letters)
    return tuple(sorted(essential))

"""What several tests share: values of any kind, sample libraries, and a second reading of the document."""

import doctest
import itertools
import random
import re

EXAMPLE = (
    ('a', (('cee', ('p',), ('q',)), ('one', ('f',), ('g',)))),
    ('b', (('dee', ('q',), ()), ('two', ('g',), ('p',)))),
)

# A ring over two archives, with members of several symbols, needs that a member
# meets itself, needs that nothing meets, and an archive without members.
RICH = (
    ('a1', (('m1', ('s1', 's2'), ('s2', 's3')), ('m2', ('s3',), ('s4', 'zz')))),
    ('b2', ()),
    ('c3', (('k9', ('s5', 's6', 's7'), ('s1', 's4', 's5')), ('m3', ('s4',), ('s6',)), ('n0', ('t0',), ()))),
)

WRONG_NAMES = ('', 'abcdefghi', 'A', 'aB', 'a b', ' a', 'a ', 'a\n', '\n', '-', 'a-b', 'a_b', '_', 'a.b', '(', 'a/b',
               '\u00e4', '\u00df', '\u0131', '\u0663', '\u00b2', '\uff41', '\u03b1', 'a\x00', '\ud800', '`', '{', ':', '@')
RIGHT_NAMES = ('a', 'z', '0', '9', 'm5', '00000000', 'zzzzzzzz', 'a1b2c3d4', 'abcdefgh', '12345678')


def run_examples(text, known):
    """Return how many of the examples in a text were run, and how many failed, with these names known."""
    test = doctest.DocTestParser().get_doctest(text, dict(known), 'examples', None, 0)
    result = doctest.DocTestRunner().run(test)
    return result.attempted, result.failed


def symbols_of(count):
    """Return so many symbols, ascending."""
    return tuple(f's{number:03}' for number in range(count))


def nested(kind, depth, core=None):
    """Return a value of one kind, nested so deep."""
    value = core
    for _ in range(depth):
        value = {'list': [value], 'tuple': (value,), 'dict': {'a': value}}[kind]
    return value


def mixed(depth):
    """Return lists, tuples and dicts in turn, nested so deep."""
    value = 'a'
    for level in range(depth):
        value = ([value], (value, 'b'), {'c': value})[level % 3]
    return value


def any_values():
    """Return values of every kind that "any value" names, new ones with each call."""
    values = [0, 1, -1, 2, 7, 200, 10 ** 30, -10 ** 30, True, False, None, (), [], {}]
    values += WRONG_NAMES + RIGHT_NAMES + ('archive', 'x' * 20000)
    values += [(0,), (None,), (True,), ('',), ('a',), ('a', 'b'), ('b', 'a'), ('a', 'a'), ('a', 1), (1, 'a')]
    values += [['a'], ['a', 'b'], ['a', ()], [[], []], [()], ((),), ((), ()), ((), (), ()), ('a', ()), ('a', []), ('a', 'b', 'c')]
    values += [('a', ('b',), ()), ['a', ('b',), ()], ('a', ['b'], ()), ('a', ('b',), []), ('a', 'b', ()), ('a', ('b',), None)]
    values += [{'a': 1}, {1: 'a'}, {'a': ('b',)}, {('a',): []}, {None: None, True: {}}, ({},), ({'a': 'a'}, {'b': 'b'})]
    values += [nested(kind, depth) for kind in ('list', 'tuple', 'dict') for depth in (2, 29, 30)]
    values += [nested(kind, 30, 'a') for kind in ('list', 'tuple', 'dict')] + [mixed(5), mixed(30)]
    return values


def paths(value, path=()):
    """Return the path to every place inside a value of tuples, the value itself first."""
    found = [path]
    if isinstance(value, tuple):
        for at, item in enumerate(value):
            found += paths(item, path + (at,))
    return found


def item_at(value, path):
    for at in path:
        value = value[at]
    return value


def replaced(value, path, new):
    """Return a value of tuples with another one in the place of one item."""
    if not path:
        return new
    at = path[0]
    return value[:at] + (replaced(value[at], path[1:], new),) + value[at + 1:]


def variants(value):
    """Return otherwise valid values with one place changed in every way that comes to mind."""
    found = []
    for path in paths(value):
        old = item_at(value, path)
        new = any_values()
        if isinstance(old, tuple):
            new += [list(old), old[::-1], old + old, old[:-1], old[1:], (old,), old + (None,), old + ([],), dict.fromkeys(old)]
            new += [old + (old[-1],), (old[0],) + old] if old else []
        else:
            new += [old.upper(), old + ' ', old[:-1], [old], (old,), {old: old}]
        found += [replaced(value, path, item) for item in new]
    return found


def same_value(one, other):
    """Tell whether two values are equal and of the same kinds throughout."""
    return one == other and repr(one) == repr(other)


def only_tuples(value):
    """Tell whether a value is made of tuples, strings and None alone."""
    if isinstance(value, tuple):
        return all(only_tuples(item) for item in value)
    return value is None or type(value) is str


def keyword_calls(function, **arguments):
    """Return what the function returns for its arguments by name, in each order of them."""
    orders = itertools.permutations(arguments.items())
    return [function(**dict(order)) for order in orders]


# The second reading: the rules of the document once more, without a look at the package.

def reads_as_name(value):
    return type(value) is str and re.fullmatch('[a-z0-9]{1,8}', value, re.ASCII) is not None


def reads_as_symbols(value, least, most):
    if type(value) is not tuple or not all(reads_as_name(item) for item in value):
        return False
    return list(value) == sorted(set(value)) and least <= len(value) <= most


def reads_as_member(value):
    if type(value) is not tuple or len(value) != 3:
        return False
    return reads_as_name(value[0]) and reads_as_symbols(value[1], 1, 6) and reads_as_symbols(value[2], 0, 8)


def reads_as_program(value):
    return type(value) is tuple and len(value) == 2 and all(reads_as_symbols(part, 0, 200) for part in value)


def reads_as_library(value):
    if type(value) is not tuple:
        return False
    for archive in value:
        if type(archive) is not tuple or len(archive) != 2 or not reads_as_name(archive[0]):
            return False
        if type(archive[1]) is not tuple or not all(reads_as_member(member) for member in archive[1]):
            return False
    names = [[member[0] for member in archive[1]] for archive in value]
    orders = names + [[archive[0] for archive in value]]
    every_name = sum(names, [])
    symbols = [symbol for archive in value for member in archive[1] for symbol in member[1]]
    return (
        all(order == sorted(set(order)) for order in orders)
        and len(value) <= 8 and len(every_name) <= 24
        and len(every_name) == len(set(every_name)) and len(symbols) == len(set(symbols))
    )


def read_closure(archives, program):
    """Return the names of the closure: rounds over all members until nothing is added."""
    members = [member for archive in archives for member in archive[1]]
    closed = set()
    while True:
        needed = set(program[1]).union(*(member[2] for member in members if member[0] in closed))
        wanted = needed - set(program[0])
        grown = {member[0] for member in members if wanted & set(member[1])}
        if grown <= closed:
            return tuple(sorted(closed))
        closed |= grown


def read_obstacles(archives, program):
    closed = read_closure(archives, program)
    members = [member for archive in archives for member in archive[1] if member[0] in closed]
    needed = set(program[1]).union(*(member[2] for member in members))
    defined = set().union(*(member[1] for member in members))
    return tuple(sorted(needed - defined - set(program[0]))), tuple(sorted(defined & set(program[0])))


def some_symbols(source, pool, least, most):
    return tuple(sorted(source.sample(pool, source.randint(least, min(most, len(pool))))))


def sample_archives(seed):
    """Return the archives of a library that the seed decides, with a few symbols that nothing defines."""
    source = random.Random(seed)
    pool = ['s%d' % number for number in range(30)]
    loose = list(pool)
    source.shuffle(loose)
    archives = []
    for at in range(source.randint(0, 5)):
        members = []
        for number in range(source.randint(0, 4)):
            defines = [loose.pop() for _ in range(source.randint(1, 3)) if loose]
            if defines:
                members.append(('m%d%d' % (at, number), tuple(sorted(defines)), some_symbols(source, pool, 0, 3)))
        archives.append(('a%d' % at, tuple(members)))
    return tuple(archives)


def sample_programs(seed):
    """Return programs over the symbols of sample_archives and some others."""
    source = random.Random(seed)
    pool = ['s%d' % number for number in range(30)] + ['x', 'y']
    return [(some_symbols(source, pool, 0, 4), some_symbols(source, pool, 0, 3)) for _ in range(12)]

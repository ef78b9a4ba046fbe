"""What several tests share: values of any kind, sample libraries, and a second reading of the document."""

import doctest
import itertools
import random
import re

EXAMPLE = (
    ('a', (('cee', ('p',), ('q',)), ('one', ('f',), ('g',)))),
    ('b', (('dee', ('q',), ()), ('two', ('g',), ('p',)))),
)

# A ring over two archives, with members of several symbols, needs that a member
# meets itself, needs that nothing meets, and an archive without members.
RICH = (
    ('a1', (('m1', ('s1', 's2'), ('s2', 's3')), ('m2', ('s3',), ('s4', 'zz')))),
    ('b2', ()),
    ('c3', (('k9', ('s5', 's6', 's7'), ('s1', 's4', 's5')), ('m3', ('s4',), ('s6',)), ('n0', ('t0',), ()))),
)

WRONG_NAMES = ('', 'abcdefghi', 'A', 'aB', 'a b', ' a', 'a ', 'a\n', '\n', '-', 'a-b', 'a_b', '_', 'a.b', '(', 'a/b',
               '\u00e4', '\u00df', '\u0131', '\u0663', '\u00b2', '\uff41', '\u03b1', 'a\x00', '\ud800', '`', '{', ':', '@')
RIGHT_NAMES = ('a', 'z', '0', '9', 'm5', '00000000', 'zzzzzzzz', 'a1b2c3d4', 'abcdefgh', '12345678')


# Members that use each other in a ring over three archives, with an archive without members between them.
RING = (
    ('a', (('m1', ('s1',), ('s2',)), ('m4', ('s4',), ('s1',)))),
    ('b', (('m2', ('s2',), ('s3',)),)),
    ('c', ()),
    ('d', (('m3', ('s3',), ('s4',)),)),
)

# 1 + 3 + .. members in layers, each of which uses all of the next layer: 1000 chains, and with one more member 1001.
LAYERS_1000 = (1, 3, 2, 4, 3, 4)
# The same for more than 1000 chains, dealt over the archives in such a way that there are more than 5000 states, too.
LAYERS_CROWDED = (3, 3, 3, 3, 3, 3)

# Rows of members, written as the archives of their members, that have just this many states.
ROWS_5000 = ('bcd', 'bada', 'cacab', 'dbda', 'efef', 'ghgh')
ROWS_5001 = ('cege', 'gd', 'bgfef', 'aeb', 'hdbhbhf', 'fcb')
# As many, but a row begins with each of the archives, so that no archive leads to the start state.
ROWS_5001_LEFT = ('agcf', 'ba', 'cadb', 'deb', 'edf', 'fadb', 'geda')


def row_of(count, last=()):
    """Return eight archives over which a row of members is dealt; each needs the next one's symbol."""
    members = [(f'm{at:02}', (f's{at:02}',), (f's{at + 1:02}',) if at + 1 < count else last) for at in range(count)]
    return tuple((f'a{at}', tuple(members[at::8])) for at in range(8))


def rows_of(rows, names=()):
    """Return archives with one letter each, and in them members that use the next one of their row."""
    homes = {name: [] for name in sorted(set(''.join(rows)) | set(names))}
    for number, row in enumerate(rows):
        for at, home in enumerate(row):
            needs = (f's{number}x{at + 1}',) if at + 1 < len(row) else ()
            homes[home].append((f'm{number}x{at}', (f's{number}x{at}',), needs))
    return tuple((home, tuple(sorted(homes[home]))) for home in homes)


def layers_of(widths, single=0):
    """Return archives with layers of members, each of which uses all of the next layer, and some single members."""
    homes = {f'a{at}': [] for at in range(8)}
    dealt = 0
    for layer, width in enumerate(widths):
        behind = widths[layer + 1] if layer + 1 < len(widths) else 0
        for at in range(width):
            needs = tuple(f's{layer + 1}x{other}' for other in range(behind))
            homes[f'a{dealt * 3 % 8}'].append((f'm{layer}x{at}', (f's{layer}x{at}',), needs))
            dealt += 1
    for at in range(single):
        homes['a7'].append((f'n{at}', (f't{at}',), ()))
    return tuple((home, tuple(sorted(homes[home]))) for home in homes)


def run_examples(text, known):
    """Return how many of the examples in a text were run, and how many failed, with these names known."""
    test = doctest.DocTestParser().get_doctest(text, dict(known), 'examples', None, 0)
    result = doctest.DocTestRunner().run(test)
    return result.attempted, result.failed


def symbols_of(count):
    """Return so many symbols, ascending."""
    return tuple(f's{number:03}' for number in range(count))


def nested(kind, depth, core=None):
    """Return a value of one kind, nested so deep."""
    value = core
    for _ in range(depth):
        value = {'list': [value], 'tuple': (value,), 'dict': {'a': value}}[kind]
    return value


def mixed(depth):
    """Return lists, tuples and dicts in turn, nested so deep."""
    value = 'a'
    for level in range(depth):
        value = ([value], (value, 'b'), {'c': value})[level % 3]
    return value


def any_values():
    """Return values of every kind that "any value" names, new ones with each call."""
    values = [0, 1, -1, 2, 7, 200, 10 ** 30, -10 ** 30, True, False, None, (), [], {}]
    values += WRONG_NAMES + RIGHT_NAMES + ('archive', 'x' * 20000)
    values += [(0,), (None,), (True,), ('',), ('a',), ('a', 'b'), ('b', 'a'), ('a', 'a'), ('a', 1), (1, 'a')]
    values += [['a'], ['a', 'b'], ['a', ()], [[], []], [()], ((),), ((), ()), ((), (), ()), ('a', ()), ('a', []), ('a', 'b', 'c')]
    values += [('a', ('b',), ()), ['a', ('b',), ()], ('a', ['b'], ()), ('a', ('b',), []), ('a', 'b', ()), ('a', ('b',), None)]
    values += [{'a': 1}, {1: 'a'}, {'a': ('b',)}, {('a',): []}, {None: None, True: {}}, ({},), ({'a': 'a'}, {'b': 'b'})]
    values += [nested(kind, depth) for kind in ('list', 'tuple', 'dict') for depth in (2, 29, 30)]
    values += [nested(kind, 30, 'a') for kind in ('list', 'tuple', 'dict')] + [mixed(5), mixed(30)]
    return values


def paths(value, path=()):
    """Return the path to every place inside a value of tuples, the value itself first."""
    found = [path]
    if isinstance(value, tuple):
        for at, item in enumerate(value):
            found += paths(item, path + (at,))
    return found


def item_at(value, path):
    for at in path:
        value = value[at]
    return value


def replaced(value, path, new):
    """Return a value of tuples with another one in the place of one item."""
    if not path:
        return new
    at = path[0]
    return value[:at] + (replaced(value[at], path[1:], new),) + value[at + 1:]


def variants(value):
    """Return otherwise valid values with one place changed in every way that comes to mind."""
    found = []
    for path in paths(value):
        old = item_at(value, path)
        new = any_values()
        if isinstance(old, tuple):
            new += [list(old), old[::-1], old + old, old[:-1], old[1:], (old,), old + (None,), old + ([],), dict.fromkeys(old)]
            new += [old + (old[-1],), (old[0],) + old] if old else []
        elif isinstance(old, int):
            new += [old + 1, old - 1, -old, bool(old), not old, str(old), [old], (old,), {old: old}]
        else:
            new += [old.upper(), old + ' ', old[:-1], [old], (old,), {old: old}]
        found += [replaced(value, path, item) for item in new]
    return found


def same_value(one, other):
    """Tell whether two values are equal and of the same kinds throughout."""
    return one == other and repr(one) == repr(other)


def only_tuples(value):
    """Tell whether a value is made of tuples, strings, integers and None alone."""
    if isinstance(value, tuple):
        return all(only_tuples(item) for item in value)
    return value is None or type(value) in (str, int)


def keyword_calls(function, **arguments):
    """Return what the function returns for its arguments by name, in each order of them."""
    orders = itertools.permutations(arguments.items())
    return [function(**dict(order)) for order in orders]


# The second reading: the rules of the document once more, without a look at the package.

def reads_as_name(value):
    return type(value) is str and re.fullmatch('[a-z0-9]{1,8}', value, re.ASCII) is not None


def reads_as_symbols(value, least, most):
    if type(value) is not tuple or not all(reads_as_name(item) for item in value):
        return False
    return list(value) == sorted(set(value)) and least <= len(value) <= most


def reads_as_member(value):
    if type(value) is not tuple or len(value) != 3:
        return False
    return reads_as_name(value[0]) and reads_as_symbols(value[1], 1, 6) and reads_as_symbols(value[2], 0, 8)


def reads_as_program(value):
    return type(value) is tuple and len(value) == 2 and all(reads_as_symbols(part, 0, 200) for part in value)


def reads_as_library(value):
    if type(value) is not tuple:
        return False
    for archive in value:
        if type(archive) is not tuple or len(archive) != 2 or not reads_as_name(archive[0]):
            return False
        if type(archive[1]) is not tuple or not all(reads_as_member(member) for member in archive[1]):
            return False
    names = [[member[0] for member in archive[1]] for archive in value]
    orders = names + [[archive[0] for archive in value]]
    every_name = sum(names, [])
    symbols = [symbol for archive in value for member in archive[1] for symbol in member[1]]
    return (
        all(order == sorted(set(order)) for order in orders)
        and len(value) <= 8 and len(every_name) <= 24
        and len(every_name) == len(set(every_name)) and len(symbols) == len(set(symbols))
    )


def read_closure(archives, program):
    """Return the names of the closure: rounds over all members until nothing is added."""
    members = [member for archive in archives for member in archive[1]]
    closed = set()
    while True:
        needed = set(program[1]).union(*(member[2] for member in members if member[0] in closed))
        wanted = needed - set(program[0])
        grown = {member[0] for member in members if wanted & set(member[1])}
        if grown <= closed:
            return tuple(sorted(closed))
        closed |= grown


def read_obstacles(archives, program):
    closed = read_closure(archives, program)
    members = [member for archive in archives for member in archive[1] if member[0] in closed]
    needed = set(program[1]).union(*(member[2] for member in members))
    defined = set().union(*(member[1] for member in members))
    return tuple(sorted(needed - defined - set(program[0]))), tuple(sorted(defined & set(program[0])))


def reads_as_line(archives, value):
    names = {archive[0] for archive in archives}
    if type(value) is not tuple or len(value) > 200:
        return False
    for item in value:
        if type(item) is str and item in names:
            continue
        if type(item) is not tuple or len(item) < 2 or not all(type(name) is str and name in names for name in item):
            return False
        if list(item) != sorted(set(item)):
            return False
    return True


def reads_as_plain_line(archives, value):
    return reads_as_line(archives, value) and all(type(item) is str for item in value)


def read_members(archives):
    """Return for each member's name its archive, what it defines and what it needs."""
    return {name: (home, set(defines), set(needs)) for home, members in archives for name, defines, needs in members}


def read_link(archives, line, program, source):
    """Link as the document says, one member after the other, in an order that the random source decides."""
    members = read_members(archives)
    needed, defined, left, pulled = set(program[1]), set(program[0]), set(members), []
    for item in line:
        here = []
        while True:
            ready = [name for name in sorted(left) if members[name][0] in ([item] if type(item) is str else item)
                     and members[name][1] & needed - defined]
            if not ready:
                break
            name = source.choice(ready)
            left.remove(name)
            here.append(name)
            defined |= members[name][1]
            needed |= members[name][2]
        pulled.append(tuple(sorted(here)))
    twice = [symbol for symbol in program[0] if any(symbol in members[name][1] for here in pulled for name in here)]
    return tuple(pulled), tuple(sorted(needed - defined)), tuple(twice)


def read_uses(archives):
    members = read_members(archives)
    pairs = itertools.permutations(sorted(members), 2)
    return tuple((one, other) for one, other in pairs if members[one][2] & members[other][1])


def reads_as_chain(archives, value):
    pairs = set(read_uses(archives))
    if type(value) is not tuple or not value or not all(type(name) is str for name in value):
        return False
    if len(set(value)) < len(value) or not set(value) <= set(read_members(archives)):
        return False
    places = itertools.combinations(range(len(value)), 2)
    return all(((value[one], value[other]) in pairs) == (other == one + 1) for one, other in places)


def read_chains(archives):
    """Return all chains, however many: first those of one member, then what each grows to by one more behind it."""
    pairs = set(read_uses(archives))
    names = sorted(read_members(archives))
    found, grown = [], [(name,) for name in names]
    while grown:
        found += grown
        grown = [chain + (name,) for chain in grown for name in names if name not in chain
                 and [other for other in chain if (other, name) in pairs] == [chain[-1]]]
    return tuple(found)


def read_word(archives, chain):
    members = read_members(archives)
    return tuple(home for home, _ in itertools.groupby(members[name][0] for name in chain))


def reads_as_part(part, whole):
    left = iter(whole)
    return all(item in left for item in part)


def read_words(archives):
    every = {read_word(archives, chain) for chain in read_chains(archives)}
    return tuple(sorted(one for one in every if not any(one != other and reads_as_part(one, other) for other in every)))


def most_letters(line, letters):
    """Return how many letters can be read at most, however many of them each item reads."""
    places = {0}
    for item in line:
        for at in sorted(places):
            while at < len(letters) and (letters[at] == item or type(item) is tuple and letters[at] in item):
                at += 1
                places.add(at)
    return max(places)


def reads_as_serving(archives, line):
    every = {read_word(archives, chain) for chain in read_chains(archives)}
    return all(most_letters(line, letters) == len(letters) for letters in every)


def read_step(every, state, archive):
    return tuple(at + 1 if letters[at:at + 1] == (archive,) else at for letters, at in zip(every, state))


def read_lines(archives, every, start, limit=10 ** 6):
    """Return the least of the shortest lines that lead from a state of these words to each other one."""
    lines, grown = {start: ()}, [start]
    while grown and len(lines) <= limit:
        fresh = []
        for state in grown:
            for name, _ in archives:
                behind = read_step(every, state, name)
                if behind not in lines:
                    lines[behind] = lines[state] + (name,)
                    fresh.append(behind)
        grown = fresh
    return lines


def reads_as_certificate(archives, value):
    """Tell whether a value is a certificate, whatever the number of chains."""
    if type(value) is not tuple or len(value) != 3:
        return False
    line, proof, ranks = value
    if not reads_as_plain_line(archives, line) or not reads_as_serving(archives, line):
        return False
    if type(proof) is not tuple or type(ranks) is not tuple:
        return False
    if not all(reads_as_chain(archives, chain) for chain in proof):
        return False
    every = [read_word(archives, chain) for chain in proof]
    for pair in ranks:
        if type(pair) is not tuple or len(pair) != 2 or type(pair[0]) is not tuple or type(pair[1]) is not int:
            return False
        if [type(read) for read in pair[0]] != [int] * len(every) or pair[1] < 0:
            return False
        if not all(read in range(len(letters) + 1) for read, letters in zip(pair[0], every)):
            return False
    known = dict(ranks)
    if len(known) < len(ranks) or known.get((0,) * len(every)) != len(line):
        return False
    for state in (state for state in known if known[state] > 0):
        behind = [read_step(every, state, archive) for archive, _ in archives]
        if all(read == len(letters) for read, letters in zip(state, every)):
            return False
        if not set(behind) <= set(known) or min(known[other] for other in behind) < known[state] - 1:
            return False
    return True


def read_pulled(archives, programs, limit=10 ** 6):
    """Return the least of the shortest lines that lead to each tuple of sets of pulled members."""
    members = read_members(archives)

    def pulled_behind(program, pulled, home):
        grown = set(pulled)
        while True:
            needed = set(program[1]).union(*(members[name][2] for name in grown))
            defined = set(program[0]).union(*(members[name][1] for name in grown))
            ready = {name for name in members if members[name][0] == home and members[name][1] & (needed - defined)}
            if ready <= grown:
                return frozenset(grown)
            grown |= ready

    start = (frozenset(),) * len(programs)
    lines, grown = {start: ()}, [start]
    while grown and len(lines) <= limit:
        fresh = []
        for state in grown:
            for home, _ in archives:
                behind = tuple(pulled_behind(program, pulled, home) for program, pulled in zip(programs, state))
                if behind not in lines:
                    lines[behind] = lines[state] + (home,)
                    fresh.append(behind)
        grown = fresh
    return lines


def read_for(archives, programs):
    """Return the least of the shortest lines that link all programs, None if one is not buildable."""
    if any(read_obstacles(archives, program) != ((), ()) for program in programs):
        return None
    goal = tuple(frozenset(read_closure(archives, program)) for program in programs)
    return read_pulled(archives, programs)[goal]


def plain_lines(archives, length):
    """Return all lines without groups of a length, in ascending order."""
    return list(itertools.product([archive[0] for archive in archives], repeat=length))


def serving_lines(archives, length):
    """Return those of them that serve, each of them tried by itself."""
    every = read_words(archives)
    return [line for line in plain_lines(archives, length)
            if all(most_letters(line, letters) == len(letters) for letters in every)]


def read_repaired(archives, line):
    """Return the least of the shortest lines that serve and have the line as a part, of all lines of each length."""
    for length in itertools.count(len(line)):
        for longer in serving_lines(archives, length):
            if reads_as_part(line, longer):
                return longer


def read_pruned(archives, line):
    """Return the least of the shortest parts of the line that serve, of all its parts, or None."""
    every = read_words(archives)
    parts = {tuple(line[at] for at in places) for places in subsets(range(len(line)))}
    serving = [part for part in parts if all(most_letters(part, letters) == len(letters) for letters in every)]
    return min(serving, key=lambda part: (len(part), part), default=None)


def read_leads(archives):
    """Return the pairs of archives of which the first one leads to the second one."""
    members = read_members(archives)
    pairs = {(members[one][0], members[other][0]) for one, other in read_uses(archives)}
    while True:
        grown = pairs | {(one, far) for one, other in pairs for near, far in pairs if other == near}
        if grown == pairs:
            return pairs
        pairs = grown


def read_grouped(archives):
    """Return the grouped line: of all orders of the items that are allowed, the one with the least first names."""
    leads = read_leads(archives)
    names = [name for name, members in archives if members]
    groups = {tuple(other for other in names if other == name or {(name, other), (other, name)} <= leads) for name in names}
    orders = [order for order in itertools.permutations(sorted(groups))
              if not any((later[0], sooner[0]) in leads for sooner, later in itertools.combinations(order, 2))]
    return tuple(group if len(group) > 1 else group[0] for group in min(orders))


NAME = '[a-z0-9]{1,8}'
NAMES = f'{NAME}( {NAME})*'
LIBRARY_ROW = re.compile(f'(archive|member) {NAME}|(defines|needs) {NAMES}')
PROGRAM_ROW = re.compile(f'(defines|needs) (-|{NAMES})')
LINE_ROW = re.compile(rf'-|({NAME}|\({NAMES}\))( ({NAME}|\({NAMES}\)))*')


def read_rows(text, form):
    """Return the rows of a text, or the number of the row that is in the error."""
    if type(text) is not str:
        return 0
    rows = text.split('\n')
    without = [at for at, row in enumerate(rows) if not form.fullmatch(row)]
    return without[0] if without else rows


def read_library_text(text):
    """Return the archives of a text, or the number of the row that is in the error."""
    if type(text) is str and text == '':
        return ()
    rows = read_rows(text, LIBRARY_ROW)
    if type(rows) is int:
        return rows
    # The first letters of the rows tell whether they stand in an order that is allowed.
    if not re.fullmatch('(a(mdn?)*)*', ''.join(row[0] for row in rows)):
        return len(rows)
    archives = []
    for word, *names in [row.split() for row in rows]:
        if word == 'archive':
            archives.append([names[0], []])
        elif word == 'member':
            archives[-1][1].append([names[0], (), ()])
        else:
            archives[-1][1][-1][('defines', 'needs').index(word) + 1] = tuple(names)
    value = tuple((name, tuple(tuple(member) for member in members)) for name, members in archives)
    return value if reads_as_library(value) else len(rows)


def read_program_text(text):
    """Return the program of a text, or the number of the row that is in the error."""
    rows = read_rows(text, PROGRAM_ROW)
    if type(rows) is int:
        return rows
    program = tuple(() if row.endswith(' -') else tuple(row.split()[1:]) for row in rows)
    ordered = [row.split()[0] for row in rows] == ['defines', 'needs']
    return program if ordered and reads_as_program(program) else len(rows)


def read_line_text(text):
    """Return the line of a text, or the number of the row that is in the error."""
    rows = read_rows(text, LINE_ROW)
    if type(rows) is int:
        return rows
    line = []
    for item in re.findall(r'\([^)]*\)|[^ ()-]+', rows[0]):
        line.append(tuple(item[1:-1].split()) if item.startswith('(') else item)
    groups = [item for item in line if type(item) is tuple]
    right = all(len(group) > 1 and list(group) == sorted(set(group)) for group in groups)
    return tuple(line) if right and len(rows) == 1 and len(line) <= 200 else len(rows)


def changed_texts(text, signs):
    """Return a text with one sign replaced, left out, doubled or put in, at every place."""
    found = [text]
    for at in range(len(text) + 1):
        found += [text[:at] + sign + text[at:] for sign in signs]
        if at < len(text):
            found += [text[:at] + sign + text[at + 1:] for sign in signs]
            found += [text[:at] + text[at + 1:], text[:at] + text[at] + text[at:]]
    return found


def subsets(pool):
    return [part for size in range(len(pool) + 1) for part in itertools.combinations(pool, size)]


def buildable_programs(archives, pool):
    """Return every buildable program over the symbols of the pool."""
    programs = itertools.product(subsets(pool), repeat=2)
    return [program for program in programs if read_obstacles(archives, program) == ((), ())]


def every_line(archives, most):
    """Return every line of at most so many items."""
    names = [archive[0] for archive in archives]
    items = names + [part for part in subsets(names) if len(part) > 1]
    return [line for size in range(most + 1) for line in itertools.product(items, repeat=size)]


def some_lines(source, archives, count):
    """Return lines with and without groups that a random source decides."""
    items = [archive[0] for archive in archives]
    groups = [part for part in subsets(items) if len(part) > 1]
    lines = []
    for number in range(count):
        pool = items + groups if number % 2 else items
        lines.append(tuple(source.choice(pool) for _ in range(source.randint(0, 8) if pool else 0)))
    return lines


def some_symbols(source, pool, least, most):
    return tuple(sorted(source.sample(pool, source.randint(least, min(most, len(pool))))))


def sample_archives(seed):
    """Return the archives of a library that the seed decides, with a few symbols that nothing defines."""
    source = random.Random(seed)
    pool = ['s%d' % number for number in range(30)]
    loose = list(pool)
    source.shuffle(loose)
    archives = []
    for at in range(source.randint(0, 5)):
        members = []
        for number in range(source.randint(0, 4)):
            defines = [loose.pop() for _ in range(source.randint(1, 3)) if loose]
            if defines:
                members.append(('m%d%d' % (at, number), tuple(sorted(defines)), some_symbols(source, pool, 0, 3)))
        archives.append(('a%d' % at, tuple(members)))
    return tuple(archives)


def sample_programs(seed):
    """Return programs over the symbols of sample_archives and some others."""
    source = random.Random(seed)
    pool = ['s%d' % number for number in range(30)] + ['x', 'y']
    return [(some_symbols(source, pool, 0, 4), some_symbols(source, pool, 0, 3)) for _ in range(12)]


def small_archives(seed):
    """Return archives with few members over the symbols s0 to s3, which are all defined or not, and x."""
    source = random.Random(seed)
    pool = ['s0', 's1', 's2', 's3', 'x']
    loose = pool[:4]
    source.shuffle(loose)
    homes = {home: [] for home in ('a', 'b', 'c')[:source.randint(1, 3)]}
    number = 0
    while loose and number < source.randint(1, 9):
        defines = tuple(sorted(loose.pop() for _ in range(source.choice((1, 1, 1, 2))) if loose))
        homes[source.choice(sorted(homes))].append((f'm{number}', defines, some_symbols(source, pool, 0, 3)))
        number += 1
    return tuple((home, tuple(homes[home])) for home in homes)

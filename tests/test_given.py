"""Point 11: the shortest line for given programs."""

import copy
import itertools
import random
import unittest

from linkorder.errors import InvalidPrograms, TooManyStates
from linkorder.given import shortest_for
from linkorder.libraries import Library
from linkorder.linking import links
from linkorder.serving import chain_program
from linkorder.shortest import shortest_line
from tests.helpers import (
    EXAMPLE, LAYERS_1000, LAYERS_CROWDED, RICH, RING, ROWS_5000, ROWS_5001, ROWS_5001_LEFT, any_values,
    buildable_programs, keyword_calls, layers_of, only_tuples, plain_lines, read_chains, read_for, read_link,
    read_pulled, read_word, read_words, reads_as_program, row_of, rows_of, run_examples, same_value,
    sample_archives, sample_programs, small_archives, symbols_of, variants,
)

DOCUMENT = """
>>> from linkorder.given import shortest_for
>>> (shortest_for(library, (((), ('p',)), ((), ('g',)))), shortest_for(library, (((), ('x',)),)))
(('b', 'a', 'b'), None)
"""

EMPTY = (('a', ()), ('b', ()))
NOTHING = ((), ())


def firsts_of(rows):
    """Return the symbols of the first members of these rows."""
    return tuple(f's{number}x0' for number in range(len(rows)))


class DocumentTest(unittest.TestCase):
    def test_the_example_of_the_document(self):
        self.assertEqual(run_examples(DOCUMENT, {'library': Library(EXAMPLE)}), (2, 0))


class ProgramsTest(unittest.TestCase):
    """Which values are programs, and the error for all others."""

    def check(self, archives, value):
        library = Library(archives)
        before = copy.deepcopy(value)
        valid = type(value) is tuple and 1 <= len(value) <= 4 and all(reads_as_program(program) for program in value)
        if valid:
            self.assertTrue(same_value(shortest_for(library, value), read_for(archives, value)))
        else:
            with self.assertRaises(InvalidPrograms) as context:
                shortest_for(library, value)
            self.assertIs(type(context.exception), InvalidPrograms)
            self.assertIs(context.exception.value, value)
        self.assertTrue(same_value(value, before))
        return valid

    def test_any_value(self):
        accepted = 0
        for archives in ((), EMPTY, EXAMPLE, RING):
            for value in any_values():
                accepted += self.check(archives, value)
                accepted += self.check(archives, (value,))
                accepted += self.check(archives, (((), ('p',)), value))
                accepted += self.check(archives, (value, NOTHING, NOTHING, NOTHING))
        self.assertGreater(accepted, 4)

    def test_any_value_at_every_depth(self):
        accepted = 0
        for value in ((((), ('p',)), ((), ('g',))), ((('p',), ('f',)),), (NOTHING,)):
            self.assertTrue(self.check(EXAMPLE, value))
            for variant in variants(value):
                accepted += self.check(EXAMPLE, variant)
        self.assertGreater(accepted, 30)

    def test_the_number_of_programs(self):
        for count in range(7):
            self.assertIs(self.check(EXAMPLE, (((), ('p',)),) * count), 1 <= count <= 4)
            self.assertIs(self.check(EXAMPLE, (NOTHING,) * count), 1 <= count <= 4)
            self.assertIs(self.check(EXAMPLE, [NOTHING] * count), False)
            self.assertIs(self.check((), (NOTHING,) * count), 1 <= count <= 4)
        self.assertTrue(self.check(EXAMPLE, tuple(((), (symbol,)) for symbol in 'fgpq')))
        self.assertFalse(self.check(EXAMPLE, tuple(((), (symbol,)) for symbol in 'fgpqx')))

    def test_a_program_alone_is_not_a_tuple_of_programs(self):
        self.assertFalse(self.check(EXAMPLE, ((), ('p',))))
        # Two empty tuples are a program, but not two programs.
        self.assertFalse(self.check(EXAMPLE, NOTHING))

    def test_the_number_of_symbols(self):
        for count in (199, 200, 201):
            self.assertIs(self.check(EXAMPLE, ((symbols_of(count), ()),)), count <= 200)
            self.assertIs(self.check(EXAMPLE, ((symbols_of(count), symbols_of(count)),)), count <= 200)
            self.assertIs(self.check(EXAMPLE, (NOTHING, ((), symbols_of(count)))), count <= 200)

    def test_an_invalid_program_comes_ahead_of_all_else(self):
        rows = rows_of(ROWS_5001)
        many, unbuildable = ((), firsts_of(ROWS_5001)), ((), ('zz',))
        for archives in (rows, layers_of(LAYERS_CROWDED)):
            for value in ((many, unbuildable, None), (unbuildable, ((), ('b', 'a'))), (many,) * 5, (unbuildable,) * 5,
                          [many], [unbuildable], (many, [(), ()])):
                self.assertFalse(self.check(archives, value))


class ShortestForTest(unittest.TestCase):
    def check(self, archives, programs, line):
        self.assertEqual(shortest_for(Library(archives), programs), line)
        self.assertEqual(read_for(archives, programs), line)

    def test_one_program(self):
        for needs, line in ((('f',), 'abab'), (('g',), 'bab'), (('p',), 'ab'), (('q',), 'b'), ((), '')):
            self.check(EXAMPLE, (((), needs),), tuple(line))
        self.check(EXAMPLE, ((('p',), ('f',)),), ('a', 'b'))
        self.check(EXAMPLE, ((('q',), ('g', 'p')),), ('a', 'b'))
        self.check(EXAMPLE, ((('q',), ('g',)),), ('b', 'a'))
        self.check(EXAMPLE, ((('f', 'g'), ('f', 'g')),), ())

    def test_several_programs(self):
        self.check(EXAMPLE, (((), ('p',)), ((), ('g',))), ('b', 'a', 'b'))
        self.check(EXAMPLE, (((), ('g',)), ((), ('p',))), ('b', 'a', 'b'))
        self.check(EXAMPLE, (((), ('q',)), (('p',), ('f',))), ('a', 'b'))
        self.check(EXAMPLE, (((), ('q',)), (('q',), ('p',))), ('a', 'b'))
        self.check(EXAMPLE, tuple(((), (symbol,)) for symbol in 'fgpq'), ('a', 'b', 'a', 'b'))

    def test_programs_that_take_different_ways_through_the_same_members(self):
        # Together the two needs take the members of one row at once; each alone takes them from its own place on.
        archives = rows_of(('abc', 'cba'))
        self.check(archives, (((), ('s0x0',)),), tuple('abc'))
        self.check(archives, (((), ('s0x1', 's1x1')),), tuple('bac'))
        self.check(archives, (((), ('s0x0',)), ((), ('s1x0',))), tuple('abcba'))
        self.check(archives, (((), ('s0x0', 's1x0')),), tuple('abcba'))

    def test_the_least_of_the_shortest_lines(self):
        archives = rows_of(('b', 'a', 'c'))
        self.check(archives, (((), ('s0x0', 's1x0', 's2x0')),), tuple('abc'))
        self.check(archives, (((), ('s2x0',)), ((), ('s0x0',))), tuple('bc'))

    def test_a_program_that_is_not_buildable(self):
        for program in (((), ('x',)), ((), ('f', 'x')), (('g',), ('f', 'p', 'x')), (('p',), ('f', 'q', 'x'))):
            self.check(EXAMPLE, (program,), None)
            self.check(EXAMPLE, (((), ('p',)), program), None)
            self.check(EXAMPLE, (program, NOTHING, NOTHING, NOTHING), None)
        # The member of s1 and s2 is needed for s1, but the program defines s2.
        self.check(RICH, ((('s2', 's3'), ('s1',)),), None)
        self.check(RICH, ((('s3', 's4'), ('s1',)),), ('a1',))

    def test_libraries_without_members(self):
        for archives in ((), EMPTY):
            self.check(archives, (NOTHING,), ())
            self.check(archives, (NOTHING,) * 4, ())
            self.check(archives, ((('x',), ('x',)),), ())
            self.check(archives, (((), ('x',)),), None)

    def test_an_archive_without_members_does_not_stand_in_it(self):
        self.check(rows_of(('bd', 'db'), 'aceg'), (((), ('s0x0', 's1x0')),), tuple('bdb'))

    def test_a_ring(self):
        self.check(RING, tuple(((), (symbol,)) for symbol in ('s1', 's2', 's3', 's4')), tuple('abdab'))
        self.check(RING, (((), ('s1',)),), tuple('abda'))
        self.check(RING, ((('s1',), ('s2',)),), tuple('bda'))

    def test_long_lines(self):
        self.check(row_of(24), (((), ('s00',)),), tuple(f'a{at}' for at in range(8)) * 3)
        self.check(rows_of(('ab' * 12,)), (((), ('s0x0',)), ((), ('s0x1',))), ('a', 'b') * 12)

    def test_the_programs_of_four_chains_whose_words_are_all_essential_words(self):
        """A line that links the programs of such chains serves, so the shortest one is the shortest line."""
        tried = 0
        for seed in range(200):
            archives = sample_archives(seed)
            library, every = Library(archives), read_words(archives)
            if 1 <= len(every) <= 4:
                first = {read_word(archives, chain): chain for chain in read_chains(archives)[::-1]}
                programs = tuple(chain_program(library, first[letters]) for letters in every)
                self.assertEqual(shortest_for(library, programs), shortest_line(library))
                tried += len(every) > 1
        self.assertGreater(tried, 30)

    def test_every_line_tried_by_itself(self):
        source, tried = random.Random(11), 0
        for seed in range(100):
            archives = small_archives(seed)
            pool = buildable_programs(archives, ('s0', 's1', 's2', 's3', 'x'))
            for count in (1, 2, 3, 4):
                programs = tuple(source.choice(pool) for _ in range(count))
                every = itertools.chain(*(plain_lines(archives, length) for length in range(9)))
                found = next(line for line in every
                             if all(read_link(archives, line, program, source)[1:] == ((), ()) for program in programs))
                self.check(archives, programs, found)
                tried += len(found) > 1
        self.assertGreater(tried, 60)

    def test_samples(self):
        seen = {True: 0, False: 0}
        for seed in range(150):
            archives, source = sample_archives(seed), random.Random(seed)
            library = Library(archives)
            pool = sample_programs(seed) + [chain_program(library, chain) for chain in read_chains(archives)[-8:]]
            for count in (1, 2, 4):
                programs = tuple(source.choice(pool) for _ in range(count))
                expected = read_for(archives, programs)
                self.assertTrue(same_value(shortest_for(library, programs), expected))
                seen[expected is None] += 1
                if expected is not None:
                    self.assertTrue(all(links(library, expected, program) for program in programs))
        self.assertGreater(min(seen.values()), 60)


class BoundsTest(unittest.TestCase):
    def raised(self, archives, programs):
        with self.assertRaises(TooManyStates) as context:
            shortest_for(Library(archives), programs)
        self.assertIs(type(context.exception), TooManyStates)

    def test_five_thousand_tuples(self):
        archives = rows_of(ROWS_5000)
        firsts = firsts_of(ROWS_5000)
        for programs in ((((), firsts),), (((), firsts[:2]), ((), firsts[2:4]), ((), firsts[4:])),
                         (((), firsts), ((), firsts), NOTHING, ((), firsts[3:]))):
            lines = read_pulled(archives, programs, 6000)
            self.assertEqual(len(lines), 5000)
            self.assertEqual(shortest_for(Library(archives), programs), read_for(archives, programs))

    def test_more_than_five_thousand_tuples(self):
        self.assertEqual(len(read_pulled(rows_of(ROWS_5001_LEFT), (((), firsts_of(ROWS_5001_LEFT)),), 6000)), 5001)
        self.raised(rows_of(ROWS_5001_LEFT), (((), firsts_of(ROWS_5001_LEFT)),))
        archives = rows_of(ROWS_5001)
        firsts = firsts_of(ROWS_5001)
        for programs in ((((), firsts),), (((), firsts[:2]), ((), firsts[2:4]), ((), firsts[4:])),
                         (NOTHING, ((), firsts[:3]), ((), firsts[3:]))):
            self.assertEqual(len(read_pulled(archives, programs, 6000)), 5001)
            self.raised(archives, programs)
        # Fewer needs lead to fewer sets.
        self.assertEqual(shortest_for(Library(archives), (((), firsts[:3]),)), read_for(archives, (((), firsts[:3]),)))

    def test_the_tuples_count_and_not_the_sets(self):
        # Four programs have few sets each, but there are many tuples of them.
        rows = ('ababab', 'cdcdcd', 'efefef', 'ghghg')
        archives = rows_of(rows, 'abcdefgh')
        needs = [('s0x0',), ('s1x0',), ('s2x0',), ('s3x0',)]
        programs = tuple(((), need) for need in needs)
        self.assertEqual(len(read_pulled(archives, programs)), 7 * 7 * 7 * 6)
        self.assertEqual(shortest_for(Library(archives), programs), tuple(''.join(rows)))
        twice = (('ababab', 'cdcdc', 'efefe', 'ghghghgh'))
        archives = rows_of(twice)
        programs = (((), ('s0x0', 's1x0')), ((), ('s0x1', 's2x0')), ((), ('s3x0',)), ((), ('s0x3', 's1x2', 's3x1')))
        self.assertGreater(len(read_pulled(archives, programs, 6000)), 5000)
        self.raised(archives, programs)
        for program in programs:
            self.assertLess(len(read_pulled(archives, (program,))), 1000)
            self.assertEqual(shortest_for(Library(archives), (program,)), read_for(archives, (program,)))

    def test_a_program_that_is_not_buildable_comes_ahead_of_too_many_tuples(self):
        archives = rows_of(ROWS_5001)
        library = Library(archives)
        many = ((), firsts_of(ROWS_5001))
        self.raised(archives, (many,))
        for unbuildable in (((), ('zz',)), ((), many[1] + ('zz',))):
            for programs in ((many, unbuildable), (unbuildable, many), (many, many, many, unbuildable), (unbuildable,)):
                self.assertIsNone(shortest_for(library, programs))

    def test_all_tuples_count_even_if_the_shortest_line_is_found_before(self):
        # It takes longer lines than the shortest one to read the rows apart from each other.
        rows = ('abgh', 'cbgh', 'dbgh', 'ebgh', 'fbgh', 'ahgh')
        archives = rows_of(rows)
        programs = (((), firsts_of(rows)),)
        lines = read_pulled(archives, programs)
        shortest = read_for(archives, programs)
        self.assertGreater(len(lines), 5000)
        self.assertLess(len([line for line in lines.values() if len(line) <= len(shortest)]), 5000)
        self.raised(archives, programs)

    def test_neither_chains_nor_states_of_words_count(self):
        crowded = layers_of(LAYERS_CROWDED)
        self.assertGreater(len(read_chains(crowded)), 1000)
        for archives in (crowded, layers_of(LAYERS_1000, 1)):
            library = Library(archives)
            self.assertEqual(shortest_for(library, (NOTHING,)), ())
            deepest = max(member[1][0] for _, members in archives for member in members if member[0].startswith('m'))
            programs = (((), (deepest,)),)
            self.assertEqual(shortest_for(library, programs), read_for(archives, programs))
        rows = rows_of(ROWS_5001)
        self.assertEqual(shortest_for(Library(rows), (((), ('s0x0',)),)), tuple('cege'))


class ConventionsTest(unittest.TestCase):
    def test_arguments_by_name_in_any_order(self):
        library, programs = Library(EXAMPLE), (((), ('p',)), ((), ('g',)))
        self.assertEqual(keyword_calls(shortest_for, library=library, programs=programs), [('b', 'a', 'b')] * 2)
        value = [((), ('p',))]
        with self.assertRaises(InvalidPrograms) as context:
            shortest_for(programs=value, library=library)
        self.assertIs(context.exception.value, value)

    def test_equal_calls_return_equal_tuples_and_change_nothing(self):
        library, programs = Library(copy.deepcopy(RING)), (((), ('s2',)), (('s1',), ('s3',)))
        inside = repr(vars(library))
        for _ in range(3):
            line = shortest_for(library, programs)
            self.assertTrue(same_value(line, ('b', 'd', 'a')))
            self.assertTrue(only_tuples(line))
            self.assertTrue(same_value(programs, (((), ('s2',)), (('s1',), ('s3',)))))
            self.assertEqual(repr(vars(library)), inside)


if __name__ == '__main__':
    unittest.main()

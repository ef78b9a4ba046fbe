"""Point 8 and the guarantees (b) and (d): which lines serve, and which program the others fail to link."""

import copy
import itertools
import random
import unittest

from linkorder.chains import chains, word
from linkorder.errors import InvalidChain, InvalidLine, TooManyChains
from linkorder.libraries import Library
from linkorder.linking import link, links
from linkorder.programs import closure, is_buildable, is_program
from linkorder.serving import chain_program, failing_program, letters_read, serves, unread_chain
from tests.helpers import (
    EXAMPLE, LAYERS_1000, LAYERS_CROWDED, RICH, RING, ROWS_5001, any_values, buildable_programs, every_line,
    keyword_calls, layers_of, most_letters, only_tuples, read_chains, read_closure, read_link, read_members, read_word,
    reads_as_chain, reads_as_line, reads_as_serving, row_of, rows_of, run_examples, same_value, sample_archives,
    small_archives, some_lines, variants,
)

DOCUMENT = """
>>> from linkorder.serving import chain_program, failing_program, serves, unread_chain
>>> (serves(library, ('a', 'b', 'a')), unread_chain(library, ('a', 'b', 'a')), failing_program(library, ('a', 'b', 'a')))
(False, ('two', 'cee', 'dee'), ((), ('g',)))
>>> (serves(library, (('a', 'b'),)), chain_program(library, ('one', 'two')))
(True, (('p',), ('f',)))
"""

EMPTY = (('a', ()), ('b', ()))
POOL = ('s0', 's1', 's2', 's3', 'x')


def letters_first(library, line):
    """Ask for the letters of a word, with the arguments of the other functions."""
    return letters_read(library, line, ())


OF_LINES = (serves, unread_chain, failing_program)


class DocumentTest(unittest.TestCase):
    def test_the_example_of_the_document(self):
        self.assertEqual(run_examples(DOCUMENT, {'library': Library(EXAMPLE)}), (3, 0))


class LinesTest(unittest.TestCase):
    def refused(self, archives, value):
        library = Library(archives)
        before = copy.deepcopy(value)
        for function in OF_LINES + (letters_first,):
            with self.assertRaises(InvalidLine) as context:
                function(library, value)
            self.assertIs(type(context.exception), InvalidLine)
            self.assertIs(context.exception.value, value)
        self.assertTrue(same_value(value, before))

    def accepted(self, archives, value):
        library = Library(archives)
        before = copy.deepcopy(value)
        expected = reads_as_serving(archives, value)
        self.assertIs(serves(library, value), expected)
        self.assertIs(unread_chain(library, value) is None, expected)
        self.assertIs(failing_program(library, value) is None, expected)
        self.assertEqual(letters_first(library, value), 0)
        self.assertTrue(same_value(value, before))

    def check(self, archives, value):
        (self.accepted if reads_as_line(archives, value) else self.refused)(archives, value)

    def test_any_value(self):
        for archives in ((), EXAMPLE, (('a', (('m', ('s',), ()),)), ('b', ()))):
            for value in any_values():
                self.check(archives, value)
                self.check(archives, (value,))

    def test_any_value_at_every_depth(self):
        for line in (('a', ('a', 'b'), 'b'), (('a', 'b'),), ()):
            for value in variants(line):
                self.check(EXAMPLE, value)

    def test_number_of_items(self):
        for count in (0, 1, 2, 199, 200, 201, 202):
            for items in (('a',), ('a', 'b'), (('a', 'b'),), (('a', 'b'), 'b')):
                line = (items * count)[:count]
                (self.accepted if count <= 200 else self.refused)(EXAMPLE, line)

    def test_groups(self):
        for item in ((), ('a',), ('b',), ('a', 'a'), ('b', 'a'), ('a', 'b', 'b'), ('a', 'c'), ['a', 'b']):
            self.refused(EXAMPLE, (item,))
        self.accepted(EXAMPLE, (('a', 'b'),))

    def test_an_invalid_line_comes_ahead_of_too_many_chains(self):
        for widths in (LAYERS_CROWDED, (4,) * 6):
            library = Library(layers_of(widths))
            for value in (None, [], ['a0'], ('b',), ('a0',) * 201, (('a0',),), (('a1', 'a0'),), (('a0', 'a0'),), 'a0', {}):
                for function in OF_LINES + (letters_first,):
                    with self.assertRaises(InvalidLine) as context:
                        function(library, value)
                    self.assertIs(context.exception.value, value)

    def test_too_many_chains_whatever_the_line_is(self):
        names = tuple(f'a{at}' for at in range(8))
        for archives in (layers_of(LAYERS_1000, 1), layers_of(LAYERS_CROWDED)):
            library = Library(archives)
            for line in ((), ('a0',), names, names * 25, (names,), (names, 'a0', ('a0', 'a7'))):
                self.assertEqual(letters_read(library, line, ()), 0)
                for function in OF_LINES:
                    with self.assertRaises(TooManyChains) as context:
                        function(library, line)
                    self.assertIs(type(context.exception), TooManyChains)

    def test_a_thousand_chains_are_not_too_many(self):
        archives = layers_of(LAYERS_1000)
        library = Library(archives)
        names = library.names()
        for line in ((), names[:3], names, names * 25, (names,), names[::-1] * 2, (names[:4], names[4:])):
            unread = [chain for chain in read_chains(archives)
                      if most_letters(line, read_word(archives, chain)) < len(read_word(archives, chain))]
            self.assertIs(serves(library, line), not unread)
            self.assertEqual(unread_chain(library, line), unread[0] if unread else None)
            self.assertEqual(failing_program(library, line), chain_program(library, unread[0]) if unread else None)

    def test_the_number_of_states_does_not_matter(self):
        archives = rows_of(ROWS_5001)
        library = Library(archives)
        self.assertIs(serves(library, (library.names(),)), True)
        self.assertIs(serves(library, library.names()), False)
        self.assertEqual(unread_chain(library, library.names()), ('m0x2', 'm0x3'))


class LettersTest(unittest.TestCase):
    def check(self, names, line, letters, expected):
        library = Library(tuple((name, ()) for name in names))
        self.assertEqual(letters_read(library, line, letters), expected)
        self.assertEqual(most_letters(line, letters), expected)

    def test_no_letters_or_no_items(self):
        self.check('ab', (), (), 0)
        self.check('ab', (), ('a', 'b'), 0)
        self.check('ab', ('a', ('a', 'b')), (), 0)

    def test_an_archive_reads_one_letter(self):
        self.check('ab', ('a',), ('a', 'b'), 1)
        self.check('ab', ('a', 'b'), ('a', 'b', 'a'), 2)
        self.check('ab', ('a', 'a', 'a'), ('a', 'b', 'a'), 1)
        self.check('ab', ('b', 'b', 'a', 'b', 'b', 'a'), ('a', 'b', 'a'), 3)
        self.check('abc', ('b', 'c', 'a'), ('a', 'b', 'c'), 1)
        self.check('abc', ('c', 'b', 'a'), ('b', 'a', 'c'), 2)

    def test_a_group_reads_as_many_as_it_can(self):
        self.check('ab', (('a', 'b'),), ('a', 'b', 'a', 'b', 'a'), 5)
        self.check('abc', (('a', 'b'),), ('a', 'b', 'a', 'c', 'a'), 3)
        self.check('abc', (('a', 'b'), 'c'), ('a', 'b', 'a', 'c', 'a'), 4)
        self.check('abc', ('c', ('a', 'b'), 'a'), ('a', 'b', 'a', 'c', 'a'), 3)
        self.check('abc', (('a', 'c'), ('b', 'c'), ('a', 'b')), ('c', 'a', 'b', 'c', 'b', 'a'), 6)
        self.check('abc', (('b', 'c'),), ('a', 'b'), 0)

    def test_names_that_are_part_of_other_names(self):
        names = ('a', 'ab', 'abc', 'b')
        self.check(names, ('ab',), ('a', 'b'), 0)
        self.check(names, ('abc', 'ab'), ('ab', 'abc'), 1)
        self.check(names, (('ab', 'abc'),), ('a', 'b'), 0)
        self.check(names, (('a', 'abc'), 'b'), ('abc', 'a', 'ab'), 2)

    def test_long_lines_and_words(self):
        self.check('ab', ('a', 'b') * 100, ('a', 'b') * 100, 200)
        self.check('ab', ('a', 'b') * 100, ('b', 'a') * 100, 199)
        self.check('ab', ('a',) * 199 + (('a', 'b'),), ('a', 'b') * 150, 300)
        self.check('ab', ('a', 'b'), ('a', 'b') * 150, 2)

    def test_samples(self):
        source = random.Random(8)
        archives = tuple((name, ()) for name in 'abcd')
        for line in some_lines(source, archives, 400):
            letters = [letter for letter, _ in itertools.groupby(source.choices('abcd', k=source.randint(0, 9)))]
            self.assertEqual(letters_read(Library(archives), line, tuple(letters)), most_letters(line, letters))


class ServesTest(unittest.TestCase):
    def check(self, archives, line, chain):
        """Check the first chain that is not read along a line."""
        library = Library(archives)
        self.assertIs(serves(library, line), chain is None)
        self.assertEqual(unread_chain(library, line), chain)
        self.assertEqual(failing_program(library, line), chain_program(library, chain) if chain else None)

    def test_a_library_without_members(self):
        self.check((), (), None)
        for line in ((), ('a',), ('b', 'a'), (('a', 'b'),)):
            self.check(EMPTY, line, None)

    def test_an_archive_without_members_need_not_stand_in_the_line(self):
        archives = (('a', ()), ('b', (('m', ('s',), ()),)), ('c', ()))
        for line in (('b',), ('a', 'b'), ('c', 'b', 'a'), (('b', 'c'),), (('a', 'b', 'c'),)):
            self.check(archives, line, None)
        for line in ((), ('a',), ('c', 'a'), (('a', 'c'),)):
            self.check(archives, line, ('m',))

    def test_the_example(self):
        self.check(EXAMPLE, (), ('cee',))
        self.check(EXAMPLE, ('a',), ('dee',))
        self.check(EXAMPLE, ('b',), ('cee',))
        self.check(EXAMPLE, ('b', 'a'), ('cee', 'dee'))
        self.check(EXAMPLE, ('a', 'b'), ('two', 'cee'))
        self.check(EXAMPLE, ('a', 'b', 'a'), ('two', 'cee', 'dee'))
        self.check(EXAMPLE, ('b', 'a', 'b'), ('one', 'two', 'cee'))
        self.check(EXAMPLE, ('b', 'a', 'b', 'a'), ('one', 'two', 'cee', 'dee'))
        self.check(EXAMPLE, ('a', 'b', 'a', 'b'), None)
        self.check(EXAMPLE, ('a', ('a', 'b')), None)
        self.check(EXAMPLE, (('a', 'b'), 'a', 'b'), None)

    def test_a_ring(self):
        self.check(RING, ('a', 'b', 'd', 'a', 'b'), None)
        self.check(RING, ('a', 'b', 'd', 'a'), ('m3', 'm4', 'm1', 'm2'))
        self.check(RING, ('d', 'a', 'b'), ('m2', 'm3'))
        self.check(RING, (('a', 'b', 'd'),), None)
        self.check(RING, (('a', 'b'), 'd', ('a', 'b')), None)

    def test_a_member_that_needs_its_own_symbol(self):
        archives = (('a', (('m', ('s', 't'), ('s', 't')),)), ('b', (('n', ('u',), ('s', 'u')),)))
        self.check(archives, ('b', 'a'), None)
        self.check(archives, ('a', 'b'), ('n', 'm'))

    def test_unknown_symbols_do_not_hide_a_member(self):
        archives = (('a', (('m', ('s',), ('t', 'x')),)), ('b', (('n', ('t',), ('y', 'z')),)))
        self.check(archives, ('b', 'a'), ('m', 'n'))
        self.assertEqual(failing_program(Library(archives), ('b', 'a')), (('x', 'y', 'z'), ('s',)))
        self.assertEqual(failing_program(Library(archives), ('a',)), (('y', 'z'), ('t',)))

    def test_the_longest_chain(self):
        archives = row_of(24)
        names = tuple(archive[0] for archive in archives)
        members = tuple(f'm{at:02}' for at in range(24))
        self.check(archives, names * 3, None)
        self.check(archives, (names * 3)[:-1], members[7:])
        self.check(archives, (names * 3)[1:], members[:17])
        self.check(archives, names * 25, None)
        self.check(archives, names[::-1] * 25, None)
        self.check(archives, (names,), None)

    def test_the_first_of_several_chains(self):
        archives = rows_of(('abc', 'acb', 'bca'))
        self.check(archives, ('a', 'b', 'c', 'b'), ('m2x1', 'm2x2'))
        self.check(archives, ('b', 'c', 'a'), ('m0x0', 'm0x1'))
        self.check(archives, ('a', 'b', 'c', 'a', 'c'), ('m1x1', 'm1x2'))
        self.check(archives, ('c', 'b', 'a', 'c', 'b'), ('m0x0', 'm0x1', 'm0x2'))


class GuaranteesTest(unittest.TestCase):
    """Every line of a few items, and every program that can be built, of small libraries."""

    def test_a_line_serves_if_it_links_every_buildable_program(self):
        seen = {True: 0, False: 0}
        for seed in range(40):
            archives, source = small_archives(seed), random.Random(seed)
            library = Library(archives)
            programs = buildable_programs(archives, POOL)
            for line in every_line(archives, 3 if len(archives) < 3 else 2):
                failing = [program for program in programs if read_link(archives, line, program, source)[1:] != ((), ())]
                self.assertIs(serves(library, line), not failing)
                self.check_failing(archives, line, failing)
                seen[not failing] += 1
        self.assertGreater(min(seen.values()), 100)

    def check_failing(self, archives, line, failing):
        """Check that the returned program is one of those that fail, and that none of them has a smaller closure."""
        program = failing_program(Library(archives), line)
        if not failing:
            self.assertIsNone(program)
            return
        self.assertIn(program, failing)
        self.assertEqual(len(read_closure(archives, program)), min(len(read_closure(archives, other)) for other in failing))

    def test_larger_samples(self):
        seen = {True: 0, False: 0}
        for seed in range(120):
            archives = sample_archives(seed)
            library = Library(archives)
            for line in some_lines(random.Random(seed), archives, 8):
                expected = reads_as_serving(archives, line)
                self.assertIs(serves(library, line), expected)
                chain, program = unread_chain(library, line), failing_program(library, line)
                self.assertIs(chain is None and program is None, expected)
                if chain is not None:
                    earlier = read_chains(archives)[:read_chains(archives).index(chain)]
                    read = [other for other in earlier
                            if most_letters(line, read_word(archives, other)) == len(read_word(archives, other))]
                    self.assertEqual(read, list(earlier))
                    self.assertEqual(program, chain_program(library, chain))
                    self.assertIs(is_buildable(library, program), True)
                    self.assertIs(links(library, line, program), False)
                seen[expected] += 1
        self.assertGreater(min(seen.values()), 20)

    def test_a_serving_line_links_the_program_of_every_chain(self):
        for seed in range(60):
            archives = sample_archives(seed)
            library = Library(archives)
            for line in some_lines(random.Random(seed), archives, 6):
                linked = [links(library, line, chain_program(library, chain)) for chain in chains(library)]
                self.assertIs(serves(library, line), all(linked))


class ChainProgramTest(unittest.TestCase):
    def check(self, archives, value):
        library = Library(archives)
        before = copy.deepcopy(value)
        valid = reads_as_chain(archives, value)
        if valid:
            self.check_program(archives, value)
        else:
            with self.assertRaises(InvalidChain) as context:
                chain_program(library, value)
            self.assertIs(type(context.exception), InvalidChain)
            self.assertIs(context.exception.value, value)
        self.assertTrue(same_value(value, before))
        return valid

    def check_program(self, archives, chain):
        library = Library(archives)
        members = read_members(archives)
        needed = set().union(*(members[name][2] for name in chain))
        supplied = set().union(*(members[name][1] for name in chain))
        program = chain_program(library, chain)
        self.assertEqual(program, (tuple(sorted(needed - supplied)), (min(members[chain[0]][1]),)))
        self.assertIs(is_program(program), True)
        self.assertIs(is_buildable(library, program), True)
        self.assertEqual(closure(library, program), tuple(sorted(chain)))
        # Along the chain's word the members are pulled one after the other.
        pulled, undefined, duplicates = link(library, word(library, chain), program)
        self.assertEqual((sorted(sum(pulled, ())), undefined, duplicates), (sorted(chain), (), ()))
        self.assertIs(links(library, word(library, chain)[:-1], program), False)

    def test_every_chain(self):
        for archives in (EXAMPLE, RICH, RING) + tuple(sample_archives(seed) for seed in range(40)):
            for chain in read_chains(archives):
                self.assertTrue(self.check(archives, chain))

    def test_the_first_symbol_of_the_first_member(self):
        library = Library(RICH)
        self.assertEqual(chain_program(library, ('k9',)), (('s1', 's4'), ('s5',)))
        self.assertEqual(chain_program(library, ('k9', 'm1')), (('s3', 's4'), ('s5',)))
        self.assertEqual(chain_program(library, ('m1', 'm2')), (('s4', 'zz'), ('s1',)))
        self.assertEqual(chain_program(library, ('n0',)), ((), ('t0',)))

    def test_what_a_member_before_defines_is_not_defined_by_the_program(self):
        library = Library(RING)
        self.assertEqual(chain_program(library, ('m1', 'm2', 'm3', 'm4')), ((), ('s1',)))
        self.assertEqual(chain_program(library, ('m1', 'm2', 'm3')), (('s4',), ('s1',)))

    def test_the_largest_program(self):
        # 24 members in a row need 7 more symbols each, so the program defines 168 of them.
        members = []
        for at in range(24):
            loose = [f'x{at:02}y{number}' for number in range(7)]
            members.append((f'm{at:02}', (f's{at:02}',), tuple(sorted(loose + [f's{at + 1:02}']))))
        archives = (('a', tuple(members)),)
        program = chain_program(Library(archives), tuple(f'm{at:02}' for at in range(24)))
        self.assertEqual(len(program[0]), 24 * 7 + 1)
        self.assertIs(is_buildable(Library(archives), program), True)

    def test_any_value(self):
        named = (('x', (('0', ('0',), ()), ('a', ('a',), ('b',)), ('b', ('b',), ('a',)))),)
        accepted = 0
        for archives in ((), EXAMPLE, named):
            for value in any_values():
                accepted += self.check(archives, value)
                accepted += self.check(archives, (value,))
        self.assertGreater(accepted, 3)

    def test_any_value_at_every_depth(self):
        for chain in (('one',), ('one', 'two', 'cee')):
            for value in variants(chain):
                self.check(EXAMPLE, value)

    def test_the_number_of_chains_does_not_matter(self):
        archives = layers_of(LAYERS_CROWDED)
        self.assertTrue(self.check(archives, ('m0x0', 'm1x1', 'm2x2')))
        self.assertFalse(self.check(archives, ('m0x0', 'm2x2')))


class ConventionsTest(unittest.TestCase):
    def test_arguments_by_name_in_any_order(self):
        library, line = Library(EXAMPLE), ('a', 'b', 'a')
        letters = ('a', 'b', 'a', 'b')
        self.assertEqual(keyword_calls(letters_read, library=library, line=line, letters=letters), [3] * 6)
        self.assertEqual(keyword_calls(serves, library=library, line=line), [False] * 2)
        self.assertEqual(keyword_calls(unread_chain, library=library, line=line), [('two', 'cee', 'dee')] * 2)
        self.assertEqual(keyword_calls(failing_program, library=library, line=line), [((), ('g',))] * 2)
        self.assertEqual(keyword_calls(chain_program, library=library, chain=('one', 'two')), [(('p',), ('f',))] * 2)
        value = ['a']
        for function in OF_LINES:
            with self.assertRaises(InvalidLine) as context:
                function(line=value, library=library)
            self.assertIs(context.exception.value, value)
        with self.assertRaises(InvalidChain) as context:
            chain_program(chain=value, library=library)
        self.assertIs(context.exception.value, value)

    def test_equal_calls_return_equal_tuples_and_change_nothing(self):
        library, line, chain, letters = Library(copy.deepcopy(RICH)), ('a1', ('b2', 'c3')), ('m2', 'm3'), ('c3', 'a1')
        inside = repr(vars(library))
        for _ in range(3):
            results = (unread_chain(library, line), failing_program(library, line), chain_program(library, chain))
            self.assertEqual(results, (('k9', 'm1'), (('s3', 's4'), ('s5',)), (('s6', 'zz'), ('s3',))))
            self.assertTrue(only_tuples(results))
            self.assertIs(serves(library, line), False)
            self.assertEqual(letters_read(library, line, letters), 1)
            self.assertTrue(same_value((line, chain, letters), (('a1', ('b2', 'c3')), ('m2', 'm3'), ('c3', 'a1'))))
            self.assertTrue(same_value(library.archives, RICH))
            self.assertEqual(repr(vars(library)), inside)


if __name__ == '__main__':
    unittest.main()

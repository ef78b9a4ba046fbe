"""Point 5: programs, their closures and their obstacles."""

import copy
import unittest

from linkorder.errors import InvalidProgram
from linkorder.libraries import Library
from linkorder.programs import closure, is_buildable, is_program, obstacles
from tests.helpers import (
    EXAMPLE, RICH, WRONG_NAMES, any_values, keyword_calls, only_tuples, read_closure, read_obstacles, reads_as_program,
    row_of, run_examples, same_value, sample_archives, sample_programs, symbols_of, variants,
)

DOCUMENT = """
>>> from linkorder.programs import closure, is_buildable, obstacles
>>> (closure(library, ((), ('g',))), closure(library, (('p',), ('f',))), obstacles(library, (('p',), ('f', 'x'))))
(('cee', 'dee', 'two'), ('one', 'two'), (('x',), ()))
>>> (is_buildable(library, (('p',), ('f',))), is_buildable(library, ((), ('x',))))
(True, False)
"""

PROGRAM = (('d', 'e'), ('f', 'g', 'h'))


class DocumentTest(unittest.TestCase):
    def test_the_example_of_the_document(self):
        self.assertEqual(run_examples(DOCUMENT, {'library': Library(EXAMPLE)}), (3, 0))


class ProgramsTest(unittest.TestCase):
    def refused(self, value):
        """Check that a value is no program for any of the functions, and is left as it was."""
        before = copy.deepcopy(value)
        self.assertIs(is_program(value), False)
        for library in (Library(()), Library(EXAMPLE)):
            for function in (closure, obstacles, is_buildable):
                with self.assertRaises(InvalidProgram) as context:
                    function(library, value)
                self.assertIs(type(context.exception), InvalidProgram)
                self.assertIs(context.exception.value, value)
        self.assertTrue(same_value(value, before))

    def accepted(self, value):
        before = copy.deepcopy(value)
        self.assertIs(is_program(value), True)
        for archives in ((), EXAMPLE):
            library = Library(archives)
            self.assertEqual(closure(library, value), read_closure(archives, value))
            self.assertEqual(obstacles(library, value), read_obstacles(archives, value))
            self.assertIs(is_buildable(library, value), read_obstacles(archives, value) == ((), ()))
        self.assertTrue(same_value(value, before))

    def test_ordinary_programs(self):
        for value in (PROGRAM, ((), ()), (('a',), ()), ((), ('a',)), (('a',), ('a',)), (('a', 'b'), ('a', 'b'))):
            self.accepted(value)

    def test_number_of_symbols(self):
        for count in (0, 1, 2, 8, 9, 199, 200, 201, 202, 400):
            check = self.accepted if count <= 200 else self.refused
            check((symbols_of(count), ()))
            check(((), symbols_of(count)))
            check((symbols_of(count), symbols_of(count)))
            check((symbols_of(200), symbols_of(count)))
            check((symbols_of(count), symbols_of(200)))

    def test_length_of_symbols(self):
        for length in range(11):
            check = self.accepted if 1 <= length <= 8 else self.refused
            check((('a' * length,), ()))
            check(((), ('a' * length,)))

    def test_length_of_the_program(self):
        for value in ((), ((),), ((), (), ()), (('a',),), (('a',), ('b',), ()), ((), (), None)):
            self.refused(value)

    def test_order(self):
        for symbols in (('b', 'a'), ('a', 'a'), ('a', 'c', 'b'), ('a', 'b', 'b'), ('b', 'a', 'c'), ('s2', 's10'), ('a', '0')):
            self.refused((symbols, ()))
            self.refused(((), symbols))
        self.accepted((('0', '10', '2', 'a', 'a10', 'a2', 'b'), ('9', 'a')))

    def test_lists_and_others_in_the_place_of_tuples(self):
        for value in ([(), ()], ([], ()), ((), []), (['a'], ()), ((), ['a']), ('', ''), ('a', 'b'), ({}, {}), (None, ()),
                      ((), None), {(): ()}, 'ab'):
            self.refused(value)

    def test_values_that_cannot_be_compared(self):
        for symbols in (('a', 1), (1, 'a'), (None, 'a'), ((), 'a'), ([], {}), (1, 2), (True, False), (('a',), ('b',))):
            self.refused((symbols, ()))
            self.refused(((), symbols))

    def test_wrong_names(self):
        for name in WRONG_NAMES:
            self.refused(((name,), ()))
            self.refused(((), (name,)))

    def test_any_value(self):
        for value in any_values():
            (self.accepted if reads_as_program(value) else self.refused)(value)

    def test_any_value_at_every_depth(self):
        accepted = 0
        for program in (PROGRAM, ((), ())):
            for value in variants(program):
                valid = reads_as_program(value)
                (self.accepted if valid else self.refused)(value)
                accepted += valid
        self.assertGreater(accepted, 30)

    def test_arguments_by_name_in_any_order(self):
        library, program = Library(EXAMPLE), (('p',), ('f', 'x'))
        self.assertEqual(keyword_calls(is_program, value=program), [True])
        self.assertEqual(keyword_calls(closure, library=library, program=program), [('one', 'two')] * 2)
        self.assertEqual(keyword_calls(obstacles, library=library, program=program), [(('x',), ())] * 2)
        self.assertEqual(keyword_calls(is_buildable, library=library, program=program), [False] * 2)
        for function in (closure, obstacles, is_buildable):
            value = [program]
            with self.assertRaises(InvalidProgram) as context:
                function(program=value, library=library)
            self.assertIs(context.exception.value, value)


class ClosureTest(unittest.TestCase):
    def test_a_program_that_needs_nothing(self):
        for archives in ((), EXAMPLE, RICH):
            self.assertEqual(closure(Library(archives), ((), ())), ())
            self.assertEqual(closure(Library(archives), (('q', 's1'), ())), ())

    def test_a_row_is_followed_to_its_end(self):
        library = Library(row_of(24))
        names = tuple(f'm{at:02}' for at in range(24))
        for at in range(24):
            self.assertEqual(closure(library, ((), (f's{at:02}',))), names[at:])

    def test_a_symbol_of_the_program_ends_a_row(self):
        library = Library(row_of(24))
        names = tuple(f'm{at:02}' for at in range(24))
        self.assertEqual(closure(library, (('s10',), ('s05',))), names[5:10])
        self.assertEqual(closure(library, (('s05',), ('s05',))), ())
        self.assertEqual(closure(library, (('s03',), ('s05',))), names[5:])
        self.assertEqual(closure(library, (('s05', 's10', 's22'), ('s05', 's08', 's20'))), names[8:10] + names[20:22])

    def test_a_ring_is_closed(self):
        ring = (('a', (('m1', ('s1',), ('s2',)), ('m3', ('s3',), ('s1',)))), ('b', (('m2', ('s2',), ('s3',)),)))
        for symbol in ('s1', 's2', 's3'):
            self.assertEqual(closure(Library(ring), ((), (symbol,))), ('m1', 'm2', 'm3'))
        self.assertEqual(closure(Library(ring), (('s3',), ('s1',))), ('m1', 'm2'))
        self.assertEqual(closure(Library(ring), (('s1',), ('s2',))), ('m2', 'm3'))

    def test_one_of_several_symbols_brings_in_the_member(self):
        library = Library(RICH)
        self.assertEqual(closure(library, ((), ('s7',))), ('k9', 'm1', 'm2', 'm3'))
        self.assertEqual(closure(library, (('s5', 's6'), ('s7',))), ('k9', 'm1', 'm2', 'm3'))
        self.assertEqual(closure(library, (('s1', 's4', 's5', 's6'), ('s7',))), ('k9',))

    def test_a_member_that_needs_its_own_symbol(self):
        library = Library((('a', (('m', ('s',), ('s',)), ('n', ('t', 'u'), ('u',)))),))
        self.assertEqual(closure(library, ((), ('s',))), ('m',))
        self.assertEqual(closure(library, ((), ('t',))), ('n',))
        self.assertEqual(closure(library, (('u',), ('t',))), ('n',))

    def test_symbols_that_nothing_defines(self):
        library = Library(RICH)
        self.assertEqual(closure(library, ((), ('nope', 'zz'))), ())
        self.assertEqual(closure(library, ((), ('nope', 't0'))), ('n0',))

    def test_names_of_members_and_archives_are_no_symbols(self):
        library = Library((('ar', (('me', ('sy',), ()),)),))
        self.assertEqual(closure(library, ((), ('ar', 'me'))), ())
        self.assertEqual(closure(library, (('ar', 'me'), ('sy',))), ('me',))


class ObstaclesTest(unittest.TestCase):
    def check(self, archives, program, undefined, duplicates):
        library = Library(archives)
        self.assertEqual(obstacles(library, program), (undefined, duplicates))
        self.assertIs(is_buildable(library, program), undefined == () and duplicates == ())

    def test_the_library_without_archives(self):
        self.check((), ((), ()), (), ())
        self.check((), (('a',), ('a',)), (), ())
        self.check((), (('a',), ('a', 'b', 'c')), ('b', 'c'), ())
        self.check((('a', ()), ('b', ())), ((), ('a', 'b')), ('a', 'b'), ())

    def test_undefined_symbols_of_the_program(self):
        self.check(EXAMPLE, ((), ('g', 'x', 'z')), ('x', 'z'), ())
        self.check(EXAMPLE, (('x',), ('g', 'x', 'z')), ('z',), ())
        self.check(EXAMPLE, (('x', 'z'), ('g', 'x', 'z')), (), ())

    def test_undefined_symbols_of_members(self):
        self.check(row_of(24, ('y', 'z')), ((), ('s00',)), ('y', 'z'), ())
        self.check(row_of(24, ('y', 'z')), (('y',), ('b', 's00')), ('b', 'z'), ())
        self.check(row_of(24, ('y', 'z')), (('s10',), ('s00',)), (), ())
        self.check(RICH, ((), ('s1',)), ('zz',), ())
        self.check(RICH, (('zz',), ('s1',)), (), ())

    def test_a_symbol_outside_the_closure_breaks_nothing(self):
        self.check(RICH, ((), ('t0',)), (), ())
        self.check(RICH, (('s7',), ('t0',)), (), ())

    def test_a_duplicate_beside_the_needed_symbol(self):
        archives = (('a', (('m', ('s', 't'), ()), ('n', ('u',), ('s',)))),)
        self.check(archives, (('t',), ('s',)), (), ('t',))
        self.check(archives, (('t',), ('u',)), (), ('t',))
        self.check(archives, (('s',), ('u',)), (), ())
        self.check(archives, (('s', 't'), ('u',)), (), ())
        self.check(archives, (('s',), ('s', 't')), (), ('s',))
        self.check(archives, (('t',), ()), (), ())

    def test_duplicates_are_ascending(self):
        self.check(RICH, (('a', 's1', 's4', 's5', 's6'), ('s7',)), (), ('s5', 's6'))
        self.check(RICH, (('s2', 's6', 't0'), ('s7',)), ('zz',), ('s2', 's6'))

    def test_both_conditions_at_once(self):
        self.check(RICH, (('s2', 'x'), ('s1', 'y')), ('y', 'zz'), ('s2',))

    def test_a_member_that_needs_its_own_symbol(self):
        archives = (('a', (('m', ('s', 't'), ('s', 't')),)),)
        self.check(archives, ((), ('s',)), (), ())
        self.check(archives, (('t',), ('s',)), (), ('t',))
        self.check(archives, (('s', 't'), ('s', 't')), (), ())

    def test_each_undefined_symbol_stands_once(self):
        archives = (('a', (('m', ('s',), ('x', 'y')), ('n', ('t',), ('x', 'z')))),)
        self.check(archives, ((), ('s', 't', 'x')), ('x', 'y', 'z'), ())

    def test_the_largest_programs(self):
        self.check(EXAMPLE, ((), symbols_of(200)), symbols_of(200), ())
        self.check(EXAMPLE, (symbols_of(200), symbols_of(200)), (), ())


class SamplesTest(unittest.TestCase):
    def test_sample_libraries_and_programs(self):
        seen = {True: 0, False: 0}
        for seed in range(300):
            archives = sample_archives(seed)
            library = Library(archives)
            for program in sample_programs(seed):
                self.assertEqual(closure(library, program), read_closure(archives, program))
                self.assertEqual(obstacles(library, program), read_obstacles(archives, program))
                buildable = read_obstacles(archives, program) == ((), ())
                self.assertIs(is_buildable(library, program), buildable)
                seen[buildable] += 1
        self.assertGreater(min(seen.values()), 100)

    def test_equal_calls_return_equal_tuples_and_change_nothing(self):
        library, program = Library(copy.deepcopy(RICH)), (('s2',), ('s1', 't0', 'y'))
        for _ in range(3):
            self.assertEqual(closure(library, program), ('k9', 'm1', 'm2', 'm3', 'n0'))
            self.assertEqual(obstacles(library, program), (('y', 'zz'), ('s2',)))
            self.assertIs(is_buildable(library, program), False)
            self.assertTrue(only_tuples((closure(library, program), obstacles(library, program))))
            self.assertTrue(same_value(program, (('s2',), ('s1', 't0', 'y'))))
            self.assertTrue(same_value(library.archives, RICH))
            self.assertEqual(library, Library(RICH))


if __name__ == '__main__':
    unittest.main()

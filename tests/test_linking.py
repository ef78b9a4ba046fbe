"""Point 6: lines and what a linker does along them."""

import copy
import random
import unittest

from linkorder.errors import InvalidLine, InvalidProgram
from linkorder.libraries import Library
from linkorder.linking import is_line, link, links
from tests.helpers import (
    EXAMPLE, RICH, RIGHT_NAMES, RING, WRONG_NAMES, any_values, every_line, keyword_calls, only_tuples, read_closure,
    read_link, reads_as_line, reads_as_program, row_of, run_examples, same_value, sample_archives, sample_programs,
    small_archives, some_lines, symbols_of, variants,
)

DOCUMENT = """
>>> from linkorder.linking import link, links
>>> link(library, ('a', 'b', 'a'), ((), ('f',)))
((('one',), ('two',), ('cee',)), ('q',), ())
>>> (link(library, (('a', 'b'),), ((), ('f',))), links(library, ('b', 'a'), ((), ('q',))))
(((('cee', 'dee', 'one', 'two'),), (), ()), True)
"""

EMPTY = (('a', ()), ('b', ()))
NOTHING = ((), ())


class DocumentTest(unittest.TestCase):
    def test_the_example_of_the_document(self):
        self.assertEqual(run_examples(DOCUMENT, {'library': Library(EXAMPLE)}), (3, 0))


class LinesTest(unittest.TestCase):
    def refused(self, archives, value):
        """Check that a value is no line for any of the functions, and is left as it was."""
        library = Library(archives)
        before = copy.deepcopy(value)
        self.assertIs(is_line(library, value), False)
        for function in (link, links):
            # The line comes first, so it does not matter what the program is.
            for program in (NOTHING, ((), ('f',)), None, [], value):
                with self.assertRaises(InvalidLine) as context:
                    function(library, value, program)
                self.assertIs(type(context.exception), InvalidLine)
                self.assertIs(context.exception.value, value)
        self.assertTrue(same_value(value, before))

    def accepted(self, archives, value):
        library = Library(archives)
        before = copy.deepcopy(value)
        self.assertIs(is_line(library, value), True)
        self.assertEqual(link(library, value, NOTHING), (((),) * len(value), (), ()))
        self.assertIs(links(library, value, NOTHING), True)
        self.assertTrue(same_value(value, before))

    def check(self, archives, value):
        valid = reads_as_line(archives, value)
        (self.accepted if valid else self.refused)(archives, value)
        return valid

    def test_ordinary_lines(self):
        for value in ((), ('a',), ('b',), ('a', 'a'), ('b', 'a', 'b', 'a'), (('a', 'b'),), ('a', ('a', 'b'), 'a', ('a', 'b'))):
            self.accepted(EXAMPLE, value)
        for value in (('c3', 'a1'), (('a1', 'c3'), 'b2'), (('a1', 'b2', 'c3'),), (('b2', 'c3'), ('a1', 'b2'))):
            self.accepted(RICH, value)

    def test_number_of_items(self):
        for count in (0, 1, 2, 24, 199, 200, 201, 202, 400):
            check = self.accepted if count <= 200 else self.refused
            check(EXAMPLE, ('a',) * count)
            check(EXAMPLE, ('a', 'b') * (count // 2) + ('b',) * (count % 2))
            check(EXAMPLE, (('a', 'b'),) * count)
            check(EMPTY, ('b',) * count)

    def test_the_items_are_counted_and_not_the_names(self):
        self.accepted(RICH, (('a1', 'b2', 'c3'),) * 200)
        self.refused(RICH, (('a1', 'b2', 'c3'),) * 201)

    def test_groups(self):
        self.refused(RICH, ((),))
        for name in ('a1', 'b2', 'c3'):
            self.refused(RICH, ((name,),))
            self.refused(RICH, ((name, name),))
            self.refused(RICH, (name, (name,)))
        for group in (('a1', 'b2'), ('a1', 'c3'), ('b2', 'c3'), ('a1', 'b2', 'c3')):
            self.accepted(RICH, (group,))
            self.accepted(RICH, ('b2', group, 'b2', group))
            self.refused(RICH, (group[::-1],))
            self.refused(RICH, (group + group,))
            self.refused(RICH, (group + group[-1:],))
            self.refused(RICH, (group[:1] + group,))
            self.refused(RICH, (group + ('d4',),))
            self.refused(RICH, (('a0',) + group,))
            self.refused(RICH, (list(group),))
            self.refused(RICH, ((group,),))
            self.refused(RICH, ((group, group),))
            self.refused(RICH, ('+'.join(group),))
        self.refused(RICH, (('a1', 'c3', 'b2'),))
        self.refused(RICH, (('b2', 'a1', 'c3'),))

    def test_names_that_are_no_archives_of_the_library(self):
        for name in ('c', 'cee', 'one', 'f', 'q', 'ab', 'A', '', 'a ', ' a', 'aa') + WRONG_NAMES:
            self.refused(EXAMPLE, (name,))
            self.refused(EXAMPLE, ('a', name, 'b'))
            self.refused(EXAMPLE, (('a', name),))
            self.refused(EXAMPLE, ((name, 'b'),))
        for name in RIGHT_NAMES:
            self.refused((), (name,))

    def test_the_library_without_archives(self):
        self.accepted((), ())
        for value in (('a',), ((),), (('a', 'b'),), (None,)):
            self.refused((), value)

    def test_an_archive_without_members(self):
        for value in (('a',), ('b', 'a'), (('a', 'b'),), ('b', ('a', 'b'))):
            self.accepted(EMPTY, value)

    def test_a_list_is_no_tuple(self):
        for value in ([], ['a'], ['a', 'b'], (['a', 'b'],), [('a', 'b')], 'a', 'ab', {'a': 'b'}, ({'a': 'a', 'b': 'b'},)):
            self.refused(EXAMPLE, value)

    def test_values_that_cannot_be_compared(self):
        for group in (('a', 1), (1, 'a'), (None, 'b'), ((), 'a'), ([], {}), (1, 2), (True, False), (('a',), ('b',))):
            self.refused(EXAMPLE, (group,))
            self.refused(EXAMPLE, ('a', group))

    def test_any_value(self):
        for archives in ((), EXAMPLE, EMPTY, (('0', ()), ('1', ()))):
            for value in any_values():
                self.check(archives, value)
                self.check(archives, (value,))

    def test_any_value_at_every_depth(self):
        accepted = 0
        for line in (('a', ('a', 'b'), 'b'), (('a', 'b'),), ()):
            for value in variants(line):
                accepted += self.check(EXAMPLE, value)
        self.assertGreater(accepted, 20)

    def test_arguments_by_name_in_any_order(self):
        library, line, program = Library(EXAMPLE), ('a', 'b', 'a'), ((), ('f',))
        self.assertEqual(keyword_calls(is_line, library=library, value=line), [True] * 2)
        self.assertEqual(keyword_calls(is_line, library=library, value=('c',)), [False] * 2)
        expected = ((('one',), ('two',), ('cee',)), ('q',), ())
        self.assertEqual(keyword_calls(link, library=library, line=line, program=program), [expected] * 6)
        self.assertEqual(keyword_calls(links, library=library, line=line, program=program), [False] * 6)
        for function in (link, links):
            value = ['a']
            with self.assertRaises(InvalidLine) as context:
                function(program=value, line=value, library=library)
            self.assertIs(context.exception.value, value)


class ProgramsTest(unittest.TestCase):
    def check(self, program):
        library = Library(EXAMPLE)
        before = copy.deepcopy(program)
        for line in ((), ('a', 'b'), (('a', 'b'), 'a')):
            for function in (link, links):
                if reads_as_program(program):
                    function(library, line, program)
                    continue
                with self.assertRaises(InvalidProgram) as context:
                    function(library, line, program)
                self.assertIs(type(context.exception), InvalidProgram)
                self.assertIs(context.exception.value, program)
        self.assertTrue(same_value(program, before))

    def test_any_value(self):
        for value in any_values():
            self.check(value)

    def test_any_value_at_every_depth(self):
        for value in variants((('d', 'e'), ('f', 'g'))):
            self.check(value)

    def test_number_of_symbols(self):
        for count in (0, 1, 200, 201):
            self.check((symbols_of(count), ()))
            self.check(((), symbols_of(count)))

    def test_an_invalid_line_comes_ahead_of_an_invalid_program(self):
        library = Library(EXAMPLE)
        for function in (link, links):
            for line in (['a'], ('c',), (('a',),), ('a',) * 201, None, ((), ())):
                for program in (None, ((),), [(), ()], (('b', 'a'), ()), ((), ())):
                    with self.assertRaises(InvalidLine) as context:
                        function(library, line, program)
                    self.assertIs(context.exception.value, line)
            program = ((), ['f'])
            with self.assertRaises(InvalidProgram) as context:
                function(library, ('a',), program)
            self.assertIs(context.exception.value, program)


class LinkTest(unittest.TestCase):
    def check(self, archives, line, program, expected):
        library = Library(archives)
        self.assertEqual(link(library, line, program), expected)
        self.assertIs(links(library, line, program), expected[1:] == ((), ()))

    def test_the_empty_line_pulls_nothing(self):
        self.check(EXAMPLE, (), ((), ('f', 'x')), ((), ('f', 'x'), ()))
        self.check(EXAMPLE, (), (('f',), ('f',)), ((), (), ()))
        self.check((), (), (('a',), ('a', 'b')), ((), ('b',), ()))

    def test_a_member_is_pulled_only_if_it_is_needed(self):
        self.check(EXAMPLE, ('a', 'b'), ((), ('q',)), (((), ('dee',)), (), ()))
        self.check(EXAMPLE, ('a', 'b'), ((), ()), (((), ()), (), ()))

    def test_a_member_that_is_needed_too_late_is_not_pulled(self):
        self.check(EXAMPLE, ('b', 'a'), ((), ('p',)), (((), ('cee',)), ('q',), ()))
        self.check(EXAMPLE, ('b', 'a', 'b'), ((), ('p',)), (((), ('cee',), ('dee',)), (), ()))

    def test_members_of_one_archive_pull_each_other(self):
        archives = (('a', (('m1', ('s1',), ('s2',)), ('m2', ('s2',), ('s3',)), ('m3', ('s3',), ()))),)
        self.check(archives, ('a',), ((), ('s1',)), ((('m1', 'm2', 'm3'),), (), ()))
        backwards = (('a', (('m1', ('s1',), ()), ('m2', ('s2',), ('s1',)), ('m3', ('s3',), ('s2',)))),)
        self.check(backwards, ('a', 'a'), ((), ('s3',)), ((('m1', 'm2', 'm3'), ()), (), ()))

    def test_a_group_is_searched_until_nothing_is_left(self):
        self.check(RING, (('a', 'b', 'd'),), ((), ('s3',)), ((('m1', 'm2', 'm3', 'm4'),), (), ()))
        self.check(RING, (('b', 'd'), ('a', 'c')), ((), ('s2',)), ((('m2', 'm3'), ('m1', 'm4')), (), ()))
        self.check(RING, (('b', 'd'),), ((), ('s1',)), (((),), ('s1',), ()))

    def test_a_ring_of_members(self):
        self.check(RING, ('a', 'b', 'd', 'a'), ((), ('s1',)), ((('m1',), ('m2',), ('m3',), ('m4',)), (), ()))
        self.check(RING, ('a', 'd', 'b', 'a'), ((), ('s1',)), ((('m1',), (), ('m2',), ()), ('s3',), ()))
        self.check(RING, ('a', 'b', 'd'), ((), ('s4',)), ((('m1', 'm4'), ('m2',), ('m3',)), (), ()))
        self.check(RING, ('d', 'a', 'b'), (('s2',), ('s3',)), ((('m3',), ('m1', 'm4'), ()), (), ()))

    def test_a_member_is_pulled_once(self):
        self.check(RING, ('a', 'b', 'd', 'a', 'a', 'b', 'd'), ((), ('s1',)),
                   ((('m1',), ('m2',), ('m3',), ('m4',), (), (), ()), (), ()))

    def test_an_archive_without_members(self):
        self.check(RING, ('c', 'a', 'c'), (('s2',), ('s4',)), (((), ('m1', 'm4'), ()), (), ()))
        self.check(EMPTY, ('a', 'b', ('a', 'b')), ((), ('a',)), (((), (), ()), ('a',), ()))

    def test_a_member_that_needs_its_own_symbol(self):
        archives = (('a', (('m', ('s', 't'), ('s',)), ('n', ('u',), ('u', 'v')))),)
        self.check(archives, ('a',), ((), ('s',)), ((('m',),), (), ()))
        self.check(archives, ('a',), ((), ('t',)), ((('m',),), (), ()))
        self.check(archives, ('a',), ((), ('u',)), ((('n',),), ('v',), ()))
        self.check(archives, ('a',), (('s',), ('t',)), ((('m',),), (), ('s',)))

    def test_a_symbol_that_the_program_defines_pulls_nothing(self):
        self.check(EXAMPLE, ('a', 'b'), (('p',), ('f', 'p')), ((('one',), ('two',)), (), ()))
        self.check(EXAMPLE, ('a', 'b'), (('f',), ('f',)), (((), ()), (), ()))

    def test_a_pulled_member_that_defines_a_symbol_of_the_program(self):
        archives = (('a', (('m', ('s', 't', 'u'), ('x',)),)), ('b', (('n', ('v', 'w'), ('s',)),)))
        self.check(archives, ('b', 'a'), (('t', 'u', 'x'), ('v',)), ((('n',), ('m',)), (), ('t', 'u')))
        self.check(archives, ('b', 'a'), (('s', 't', 'u'), ('v',)), ((('n',), ()), (), ()))
        self.check(archives, ('b', 'a'), (('u', 'w'), ('v',)), ((('n',), ('m',)), ('x',), ('u', 'w')))
        self.check(archives, ('a', 'b'), (('u', 'w'), ('v',)), (((), ('n',)), ('s',), ('w',)))

    def test_unknown_symbols(self):
        self.check(RICH, ('a1', 'c3', 'a1'), ((), ('nope', 's1')), ((('m1', 'm2'), ('k9', 'm3'), ()), ('nope', 'zz'), ()))
        self.check(RICH, ('a1', 'c3'), (('nope', 'zz'), ('nope', 's1')), ((('m1', 'm2'), ('k9', 'm3')), (), ()))
        self.check(RICH, ('c3',), (('other',), ('t0',)), ((('n0',),), (), ()))

    def test_names_of_members_and_archives_are_no_symbols(self):
        archives = (('ar', (('me', ('sy',), ()),)),)
        self.check(archives, ('ar',), ((), ('ar', 'me')), (((),), ('ar', 'me'), ()))
        self.check(archives, ('ar',), (('ar', 'me'), ('sy',)), ((('me',),), (), ()))

    def test_long_lines(self):
        archives = row_of(24)
        names = tuple(archive[0] for archive in archives)
        pulled, undefined, duplicates = link(Library(archives), names * 25, ((), ('s00',)))
        self.assertEqual(pulled, tuple((f'm{at:02}',) for at in range(24)) + ((),) * 176)
        self.assertEqual((undefined, duplicates), ((), ()))
        backwards = names[::-1] * 25
        pulled, undefined, duplicates = link(Library(archives), backwards, ((), ('s00',)))
        self.assertEqual(sum(pulled, ()), tuple(f'm{at:02}' for at in range(24)))
        self.assertEqual(len(pulled), 200)
        # The first member is in the last one of eight archives, and each next one seven items behind.
        self.assertIs(links(Library(archives), backwards[:168], ((), ('s00',))), False)
        self.assertIs(links(Library(archives), backwards[:169], ((), ('s00',))), True)

    def test_the_largest_programs(self):
        symbols = symbols_of(200)
        self.check(EXAMPLE, ('a', 'b'), ((), symbols), (((), ()), symbols, ()))
        self.check(EXAMPLE, ('a', 'b'), (symbols, symbols), (((), ()), (), ()))


class SamplesTest(unittest.TestCase):
    def test_sample_lines_and_programs(self):
        seen = {True: 0, False: 0}
        for seed in range(150):
            archives, source = sample_archives(seed), random.Random(seed)
            library = Library(archives)
            lines = some_lines(source, archives, 8)
            for line, program in [(line, program) for line in lines for program in sample_programs(seed)[:6]]:
                expected = read_link(archives, line, program, source)
                self.assertEqual(link(library, line, program), expected)
                self.assertIs(links(library, line, program), expected[1:] == ((), ()))
                seen[expected[1:] == ((), ())] += 1
        self.assertGreater(min(seen.values()), 100)

    def test_the_order_of_pulling_does_not_matter(self):
        program = ((), ('s0', 's1', 's2'))
        for seed in range(60):
            archives = small_archives(seed)
            for line in every_line(archives, 2):
                found = {read_link(archives, line, program, random.Random(order)) for order in range(3)}
                self.assertEqual(found, {link(Library(archives), line, program)})

    def test_only_members_of_the_closure_are_pulled(self):
        for seed in range(100):
            archives = sample_archives(seed)
            every = (tuple(archive[0] for archive in archives),) if len(archives) > 1 else ()
            for program in sample_programs(seed):
                pulled = link(Library(archives), every, program)[0]
                if every:
                    self.assertEqual(pulled, (read_closure(archives, program),))

    def test_equal_calls_return_equal_tuples_and_change_nothing(self):
        library, line, program = Library(copy.deepcopy(RICH)), (('a1', 'b2'), 'c3', 'a1'), (('s2',), ('s1', 't0', 'y'))
        inside = repr(vars(library))
        for _ in range(3):
            result = link(library, line, program)
            self.assertEqual(result, ((('m1', 'm2'), ('k9', 'm3', 'n0'), ()), ('y', 'zz'), ('s2',)))
            self.assertIs(links(library, line, program), False)
            self.assertTrue(only_tuples(result))
            self.assertTrue(same_value(line, (('a1', 'b2'), 'c3', 'a1')))
            self.assertTrue(same_value(program, (('s2',), ('s1', 't0', 'y'))))
            self.assertTrue(same_value(library.archives, RICH))
            self.assertEqual(repr(vars(library)), inside)


if __name__ == '__main__':
    unittest.main()

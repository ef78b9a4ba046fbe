"""Point 4: names, members and libraries."""

import copy
import unittest

from linkorder.errors import InvalidLibrary
from linkorder.libraries import Library, is_member, is_name
from tests.helpers import (
    EXAMPLE, RICH, RIGHT_NAMES, WRONG_NAMES, any_values, keyword_calls, only_tuples, reads_as_library, reads_as_member,
    reads_as_name, run_examples, same_value, sample_archives, symbols_of, variants,
)

DOCUMENT = """
>>> from linkorder.libraries import Library
>>> library = Library((('a', (('cee', ('p',), ('q',)), ('one', ('f',), ('g',)))), ('b', (('dee', ('q',), ()), ('two', ('g',), ('p',))))))
>>> (library.names(), library.members(), library.archive_of('dee'), library.definer('g'), library.member('two'))
(('a', 'b'), ('cee', 'dee', 'one', 'two'), 'b', 'two', ('two', ('g',), ('p',)))
"""

MEMBER = ('one', ('f', 'g'), ('h', 'i'))


def members_of(count, first=0):
    """Return so many members, ascending, none of which needs anything."""
    return tuple((f'm{number:03}', (f's{number:03}',), ()) for number in range(first, first + count))


class DocumentTest(unittest.TestCase):
    def test_the_example_of_the_document(self):
        self.assertEqual(run_examples(DOCUMENT, {}), (3, 0))


class NamesTest(unittest.TestCase):
    def test_every_allowed_character_is_a_name(self):
        for character in map(chr, range(0x250)):
            expected = character in 'abcdefghijklmnopqrstuvwxyz0123456789'
            self.assertIs(is_name(character), expected, repr(character))
            self.assertIs(is_name('a' + character + '0'), expected, repr(character))
            self.assertIs(is_name('abcdefg' + character), expected, repr(character))

    def test_lengths(self):
        for length in range(12):
            self.assertIs(is_name('a' * length), 1 <= length <= 8, length)

    def test_right_and_wrong_names(self):
        for name in RIGHT_NAMES:
            self.assertIs(is_name(name), True, name)
        for name in WRONG_NAMES:
            self.assertIs(is_name(name), False, repr(name))

    def test_any_value(self):
        for value in any_values():
            before = repr(value)
            self.assertIs(is_name(value), reads_as_name(value), before[:80])
            self.assertEqual(repr(value), before)

    def test_only_strings_are_names(self):
        for value in (0, 1, True, None, ('a',), ['a'], {'a': 'a'}, 'ab', b'ab'):
            self.assertIs(is_name(value), value == 'ab', value)

    def test_argument_by_name(self):
        self.assertEqual(keyword_calls(is_name, value='a') + keyword_calls(is_name, value=[]), [True, False])


class MembersTest(unittest.TestCase):
    def test_ordinary_members(self):
        for value in (MEMBER, ('a', ('a',), ()), ('a', ('a',), ('a',)), ('0', ('0', '1', 'a'), ('z',))):
            self.assertIs(is_member(value), True, value)

    def test_number_of_defined_symbols(self):
        for count in range(10):
            self.assertIs(is_member(('m', symbols_of(count), ())), 1 <= count <= 6, count)

    def test_number_of_needed_symbols(self):
        for count in range(12):
            self.assertIs(is_member(('m', ('s',), symbols_of(count))), count <= 8, count)

    def test_length_of_the_member(self):
        for value in ((), ('m',), ('m', ('s',)), ('m', ('s',), (), ()), ('m', ('s',), (), None)):
            self.assertIs(is_member(value), False, value)

    def test_length_of_its_names(self):
        for length in range(11):
            long = 'a' * length
            for value in ((long, ('s',), ()), ('m', (long,), ()), ('m', ('s',), (long,))):
                self.assertIs(is_member(value), 1 <= length <= 8, value)

    def test_order(self):
        for symbols in (('b', 'a'), ('a', 'a'), ('a', 'c', 'b'), ('a', 'b', 'b'), ('b', 'a', 'c'), ('s2', 's10'), ('a', '0')):
            self.assertIs(is_member(('m', symbols, ())), False, symbols)
            self.assertIs(is_member(('m', ('s',), symbols)), False, symbols)

    def test_lists_in_the_place_of_tuples(self):
        for value in (list(MEMBER), ('m', ['s'], ()), ('m', ('s',), []), ('m', ('s',), ['t']), ('m', 's', ()), ('m', ('s',), 't')):
            self.assertIs(is_member(value), False, value)

    def test_values_that_cannot_be_compared(self):
        for symbols in (('a', 1), (1, 'a'), (None, 'a'), ((), 'a'), ([], {}), (1, 2), (True, False), (('a',), ('b',))):
            self.assertIs(is_member(('m', symbols, ())), False, symbols)
            self.assertIs(is_member(('m', ('s',), symbols)), False, symbols)

    def test_any_value(self):
        for value in any_values():
            before = repr(value)
            self.assertIs(is_member(value), reads_as_member(value), before[:80])
            self.assertEqual(repr(value), before)

    def test_any_value_at_every_depth(self):
        for member in (MEMBER, ('a', ('a',), ())):
            for value in variants(member):
                before = repr(value)
                self.assertIs(is_member(value), reads_as_member(value), before[:200])
                self.assertEqual(repr(value), before)

    def test_argument_by_name(self):
        self.assertEqual(keyword_calls(is_member, value=MEMBER) + keyword_calls(is_member, value=None), [True, False])


class ValidLibrariesTest(unittest.TestCase):
    def refused(self, value):
        """Check that a value is refused as it must be, and left as it was."""
        before = copy.deepcopy(value)
        with self.assertRaises(InvalidLibrary) as context:
            Library(value)
        self.assertIs(type(context.exception), InvalidLibrary)
        self.assertIs(context.exception.value, value)
        self.assertTrue(same_value(value, before))

    def accepted(self, value):
        before = copy.deepcopy(value)
        library = Library(value)
        self.assertEqual(library.archives, before)
        self.assertTrue(same_value(value, before))
        return library

    def test_ordinary_libraries(self):
        for archives in (EXAMPLE, RICH, (), (('a', ()),), (('a', ()), ('b', ())), (('a', (('a', ('a',), ('a',)),)),)):
            self.accepted(archives)

    def test_number_of_archives(self):
        for count in range(12):
            archives = tuple((f'a{number:02}', ()) for number in range(count))
            (self.accepted if count <= 8 else self.refused)(archives)

    def test_number_of_members_in_one_archive(self):
        for count in (0, 1, 23, 24, 25, 26, 60):
            (self.accepted if count <= 24 else self.refused)((('a', members_of(count)),))

    def test_number_of_members_in_several_archives(self):
        for counts in ((12, 12), (12, 13), (24, 0), (24, 1), (0, 24), (0, 25), (3,) * 8, (3,) * 7 + (4,), (24, 24)):
            archives, first = [], 0
            for at, count in enumerate(counts):
                archives.append((f'a{at}', members_of(count, first)))
                first += count
            (self.accepted if sum(counts) <= 24 else self.refused)(tuple(archives))

    def test_order_of_archives(self):
        for names in (('b', 'a'), ('a', 'a'), ('a', 'c', 'b'), ('a', 'b', 'b'), ('b', 'a', 'c'), ('a2', 'a10'), ('a', '0')):
            self.refused(tuple((name, ()) for name in names))
        self.accepted(tuple((name, ()) for name in ('0', '10', '2', 'a', 'a10', 'a2', 'b', 'ba')))

    def test_order_of_members(self):
        for names in (('b', 'a'), ('a', 'a'), ('a', 'c', 'b'), ('a', 'b', 'b'), ('m2', 'm10'), ('a', '0')):
            members = tuple((name, (f's{at}',), ()) for at, name in enumerate(names))
            self.refused((('a', members),))
            self.refused((('a', ()), ('b', members)))
        self.accepted((('a', (('0', ('z',), ()), ('a', ('y',), ()), ('a0', ('x',), ()))),))

    def test_a_member_name_stands_once(self):
        self.refused((('a', (('m', ('s',), ()),)), ('b', (('m', ('t',), ()),))))
        self.refused((('a', (('m', ('s',), ()),)), ('b', ()), ('c', (('k', ('t',), ()), ('m', ('u',), ())))))
        self.refused((('a', (('m', ('s',), ()), ('m', ('t',), ()))),))

    def test_a_symbol_is_defined_once(self):
        self.refused((('a', (('m', ('s',), ()), ('n', ('s',), ()))),))
        self.refused((('a', (('m', ('s',), ()),)), ('b', (('n', ('s',), ()),))))
        self.refused((('a', (('m', ('s', 't'), ()),)), ('b', (('k', ('r',), ()), ('n', ('q', 't'), ())))))
        self.refused((('a', (('m', ('s', 's'), ()),)),))

    def test_a_symbol_may_be_needed_often_and_by_its_definer(self):
        self.accepted((('a', (('m', ('s',), ('s', 't')), ('n', ('t',), ('s', 't')))),))

    def test_names_of_different_things_may_be_equal(self):
        self.accepted((('a', (('a', ('a', 'b'), ('c',)), ('b', ('c',), ('a',)))), ('b', ())))

    def test_bounds_of_members_inside_a_library(self):
        for count in range(9):
            (self.accepted if 1 <= count <= 6 else self.refused)((('a', (('m', symbols_of(count), ()),)),))
        for count in range(11):
            (self.accepted if count <= 8 else self.refused)((('a', (('m', ('s',), symbols_of(count)),)),))

    def test_lengths_of_names(self):
        for length in (0, 1, 8, 9):
            long = 'a' * length
            for archives in (((long, ()),), (('a', ((long, ('s',), ()),)),), (('a', (('m', (long,), ()),)),),
                             (('a', (('m', ('s',), (long,)),)),)):
                (self.accepted if 1 <= length <= 8 else self.refused)(archives)

    def test_lists_and_dicts_in_the_place_of_tuples(self):
        self.refused(list(EXAMPLE))
        self.refused([])
        self.refused({})
        self.refused({'a': ()})
        self.refused((['a', ()],))
        self.refused((('a', []),))
        self.refused((('a', {}),))
        self.refused((('a', [('m', ('s',), ())]),))
        self.refused((('a', (['m', ('s',), ()],)),))
        self.refused((('a', (('m', ['s'], ()),)),))
        self.refused((('a', (('m', ('s',), []),)),))
        self.refused((('a', ()), ['b', ()]))

    def test_wrong_lengths_of_archives(self):
        for archive in ((), ('a',), ('a', (), ()), ((),), ((), 'a'), 'a', ('a', None), ('a', 'bcd')):
            self.refused((archive,))

    def test_wrong_names_everywhere(self):
        for name in WRONG_NAMES:
            self.refused(((name, ()),))
            self.refused((('a', ((name, ('s',), ()),)),))
            self.refused((('a', (('m', (name,), ()),)),))
            self.refused((('a', (('m', ('s',), (name,)),)),))

    def test_any_value(self):
        for value in any_values():
            (self.accepted if reads_as_library(value) else self.refused)(value)

    def test_any_value_at_every_depth(self):
        accepted = 0
        for archives in (EXAMPLE, RICH):
            for value in variants(archives):
                valid = reads_as_library(value)
                (self.accepted if valid else self.refused)(value)
                accepted += valid
        self.assertGreater(accepted, 100)

    def test_sample_libraries(self):
        for seed in range(100):
            self.accepted(sample_archives(seed))

    def test_argument_by_name(self):
        library, = keyword_calls(Library, archives=EXAMPLE)
        self.assertEqual(library, Library(EXAMPLE))
        with self.assertRaises(InvalidLibrary) as context:
            keyword_calls(Library, archives=5)
        self.assertEqual(context.exception.value, 5)

    def test_archives_must_be_passed(self):
        self.assertRaises(TypeError, Library)


class EqualityTest(unittest.TestCase):
    def test_equal_archives(self):
        for archives in (EXAMPLE, RICH, ()):
            one, other = Library(archives), Library(copy.deepcopy(archives))
            self.assertIs(one == other, True)
            self.assertIs(one != other, False)

    def test_every_difference_counts(self):
        kinds = [(), (('a', ()),), (('b', ()),), (('a', ()), ('b', ())), EXAMPLE, EXAMPLE[:1], RICH]
        kinds += [(('a', (('m', defines, needs),)),) for defines in (('s',), ('s', 't')) for needs in ((), ('u',))]
        kinds += [(('a', (('n', ('s',), ()),)),), (('b', (('m', ('s',), ()),)),)]
        for at, one in enumerate(kinds):
            for place, other in enumerate(kinds):
                self.assertIs(Library(one) == Library(other), at == place)
                self.assertIs(Library(one) != Library(other), at != place)

    def test_a_library_equals_nothing_else(self):
        class Other:
            archives = EXAMPLE

        library = Library(EXAMPLE)
        for value in any_values() + [EXAMPLE, list(EXAMPLE), library.names(), library.members(), Other(), Library]:
            self.assertIs(library == value, False)
            self.assertIs(value == library, False)
            self.assertIs(library != value, True)
        self.assertIs(Library(()) == (), False)


class MethodsTest(unittest.TestCase):
    def test_methods_stand_in_the_class_itself(self):
        for name in ('names', 'members', 'member', 'archive_of', 'definer', '__eq__'):
            self.assertIn(name, vars(Library))

    def test_the_archives_are_an_attribute(self):
        self.assertIs(Library(EXAMPLE).archives, EXAMPLE)
        self.assertEqual(Library(()).archives, ())

    def test_the_library_without_archives(self):
        library = Library(())
        self.assertEqual((library.names(), library.members()), ((), ()))
        self.assertEqual((library.member('a'), library.archive_of('a'), library.definer('a')), (None, None, None))

    def test_archives_without_members(self):
        library = Library((('a', ()), ('b', ())))
        self.assertEqual((library.names(), library.members()), (('a', 'b'), ()))
        self.assertEqual((library.member('a'), library.archive_of('a'), library.definer('a')), (None, None, None))

    def test_members_are_ascending_over_all_archives(self):
        library = Library((('a', (('m', ('s',), ()), ('z', ('t',), ()))), ('b', (('a', ('u',), ()), ('n', ('v',), ())))))
        self.assertEqual(library.members(), ('a', 'm', 'n', 'z'))
        self.assertEqual([library.archive_of(name) for name in library.members()], ['b', 'a', 'b', 'a'])

    def test_a_name_is_looked_up_in_its_own_place(self):
        library = Library((('ar', (('me', ('sy',), ('ne',)),)),))
        for name, member, archive, definer in (
            ('ar', None, None, None), ('me', ('me', ('sy',), ('ne',)), 'ar', None), ('sy', None, None, 'me'),
            ('ne', None, None, None), ('', None, None, None), ('other', None, None, None), ('ME', None, None, None),
        ):
            self.assertEqual(library.member(name), member)
            self.assertEqual(library.archive_of(name), archive)
            self.assertEqual(library.definer(name), definer)

    def test_every_symbol_of_a_member_has_its_definer(self):
        library = Library(RICH)
        self.assertEqual([library.definer(f's{number}') for number in range(1, 9)],
                         ['m1', 'm1', 'm2', 'm3', 'k9', 'k9', 'k9', None])
        self.assertEqual((library.definer('t0'), library.definer('zz')), ('n0', None))

    def test_sample_libraries(self):
        for seed in range(60):
            archives = sample_archives(seed)
            library = Library(archives)
            pairs = [(archive[0], member) for archive in archives for member in archive[1]]
            self.assertEqual(library.names(), tuple(archive[0] for archive in archives))
            self.assertEqual(library.members(), tuple(sorted(member[0] for _, member in pairs)))
            for archive, member in pairs:
                self.assertEqual(library.member(member[0]), member)
                self.assertEqual(library.archive_of(member[0]), archive)
                for symbol in member[1]:
                    self.assertEqual(library.definer(symbol), member[0])

    def test_any_value(self):
        for archives in ((), EXAMPLE, RICH, (('a', (('a', ('a',), ()),)),)):
            library = Library(archives)
            for value in any_values():
                before = repr(value)
                is_a = value == 'a' and len(archives) == 1
                self.assertEqual(library.member(value), ('a', ('a',), ()) if is_a else None)
                self.assertEqual(library.archive_of(value), 'a' if is_a else None)
                self.assertEqual(library.definer(value), 'a' if is_a else None)
                self.assertEqual(repr(value), before)

    def test_arguments_by_name(self):
        library = Library(EXAMPLE)
        self.assertEqual(keyword_calls(library.member, name='dee'), [('dee', ('q',), ())])
        self.assertEqual(keyword_calls(library.archive_of, name='dee'), ['b'])
        self.assertEqual(keyword_calls(library.definer, symbol='q'), ['dee'])

    def test_equal_calls_return_equal_tuples(self):
        library = Library(copy.deepcopy(RICH))
        for _ in range(3):
            self.assertEqual(library.names(), ('a1', 'b2', 'c3'))
            self.assertEqual(library.members(), ('k9', 'm1', 'm2', 'm3', 'n0'))
            self.assertEqual(library.member('m2'), ('m2', ('s3',), ('s4', 'zz')))
            results = (library.names(), library.members(), library.member('k9'), library.member('none'))
            self.assertTrue(only_tuples(results))
            self.assertTrue(same_value(library.archives, RICH))


if __name__ == '__main__':
    unittest.main()

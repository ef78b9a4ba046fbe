"""Point 7: which member uses which, chains and their words."""

import copy
import itertools
import unittest

from linkorder.chains import chains, is_chain, uses, word, words
from linkorder.errors import InvalidChain, TooManyChains
from linkorder.libraries import Library
from tests.helpers import (
    EXAMPLE, LAYERS_1000, LAYERS_CROWDED, RICH, RING, ROWS_5000, any_values, keyword_calls, layers_of, only_tuples,
    read_chains, read_members, read_uses, read_word, read_words, reads_as_chain, reads_as_part, row_of, rows_of,
    run_examples, same_value, sample_archives, small_archives, variants,
)

DOCUMENT = """
>>> from linkorder.chains import chains, uses, word, words
>>> uses(library)
(('cee', 'dee'), ('one', 'two'), ('two', 'cee'))
>>> (len(chains(library)), chains(library)[7], word(library, ('one', 'two', 'cee')), words(library))
(10, ('one', 'two', 'cee'), ('a', 'b', 'a'), (('a', 'b', 'a', 'b'),))
"""

EMPTY = (('a', ()), ('b', ()))
# Members that meet their own needs, and one that uses another one by two symbols.
SELFISH = (
    ('a', (('m', ('s', 't'), ('s', 't')), ('n', ('u',), ('s', 't', 'u', 'zz')))),
    ('b', (('o', ('v',), ('v',)),)),
)
# A member that uses the next one and also one further behind.
SHORTCUT = (
    ('a', (('m1', ('s1',), ('s2', 's3')), ('m3', ('s3',), ('s4',)))),
    ('b', (('m2', ('s2',), ('s3',)), ('m4', ('s4',), ('s1', 's2', 's3')))),
)
ALL = ((), EMPTY, EXAMPLE, RICH, RING, SELFISH, SHORTCUT)


class DocumentTest(unittest.TestCase):
    def test_the_example_of_the_document(self):
        self.assertEqual(run_examples(DOCUMENT, {'library': Library(EXAMPLE)}), (3, 0))


class UsesTest(unittest.TestCase):
    def test_a_library_without_members(self):
        self.assertEqual(uses(Library(())), ())
        self.assertEqual(uses(Library(EMPTY)), ())

    def test_a_member_does_not_use_itself(self):
        self.assertEqual(uses(Library(SELFISH)), (('n', 'm'),))

    def test_rings_and_unknown_symbols(self):
        self.assertEqual(uses(Library(RING)), (('m1', 'm2'), ('m2', 'm3'), ('m3', 'm4'), ('m4', 'm1')))
        self.assertEqual(uses(Library(RICH)), (('k9', 'm1'), ('k9', 'm3'), ('m1', 'm2'), ('m2', 'm3'), ('m3', 'k9')))

    def test_the_order_is_that_of_the_members_and_not_of_the_archives_or_symbols(self):
        archives = (('a', (('z', ('s1',), ('s2', 's3')),)), ('b', (('b', ('s3',), ('s1',)), ('c', ('s2',), ('s1', 's3')))))
        self.assertEqual(uses(Library(archives)), (('b', 'z'), ('c', 'b'), ('c', 'z'), ('z', 'b'), ('z', 'c')))

    def test_names_of_members_are_no_symbols(self):
        self.assertEqual(uses(Library((('a', (('m', ('s',), ('n',)), ('n', ('m',), ('m',)))),))), ())

    def test_samples(self):
        for archives in [sample_archives(seed) for seed in range(200)] + list(ALL):
            self.assertEqual(uses(Library(archives)), read_uses(archives))


class IsChainTest(unittest.TestCase):
    def refused(self, archives, value):
        """Check that a value is no chain, and is left as it was."""
        library = Library(archives)
        before = copy.deepcopy(value)
        self.assertIs(is_chain(library, value), False)
        with self.assertRaises(InvalidChain) as context:
            word(library, value)
        self.assertIs(type(context.exception), InvalidChain)
        self.assertIs(context.exception.value, value)
        self.assertTrue(same_value(value, before))

    def accepted(self, archives, value):
        library = Library(archives)
        before = copy.deepcopy(value)
        self.assertIs(is_chain(library, value), True)
        self.assertEqual(word(library, value), read_word(archives, value))
        self.assertTrue(same_value(value, before))

    def check(self, archives, value):
        valid = reads_as_chain(archives, value)
        (self.accepted if valid else self.refused)(archives, value)
        return valid

    def test_the_empty_tuple_is_no_chain(self):
        for archives in ALL:
            self.refused(archives, ())

    def test_a_single_member_is_a_chain(self):
        for archives in ALL:
            for name in read_members(archives):
                self.accepted(archives, (name,))
                self.refused(archives, (name, name))
                self.refused(archives, name)
                self.refused(archives, [name])
                self.refused(archives, ((name,),))

    def test_names_that_are_no_members(self):
        for name in ('a', 'b', 'f', 'g', 'x', '', 'On', 'one ', 'oned'):
            self.refused(EXAMPLE, (name,))
            self.refused(EXAMPLE, ('one', name))
            self.refused(EXAMPLE, (name, 'two'))
        self.refused((), ('one',))
        self.refused(EMPTY, ('a',))

    def test_each_member_uses_the_next_one(self):
        self.accepted(EXAMPLE, ('one', 'two', 'cee', 'dee'))
        for value in (('two', 'one'), ('one', 'cee'), ('one', 'two', 'dee'), ('dee', 'cee', 'two', 'one'), ('cee', 'one')):
            self.refused(EXAMPLE, value)

    def test_no_member_uses_one_further_behind(self):
        self.accepted(SHORTCUT, ('m1', 'm2'))
        self.accepted(SHORTCUT, ('m1', 'm3', 'm4'))
        self.accepted(SHORTCUT, ('m2', 'm3', 'm4'))
        self.refused(SHORTCUT, ('m1', 'm2', 'm3'))
        self.refused(SHORTCUT, ('m1', 'm2', 'm3', 'm4'))

    def test_a_member_may_use_one_that_stands_before_it(self):
        self.accepted(SHORTCUT, ('m3', 'm4', 'm1'))
        self.accepted(SHORTCUT, ('m2', 'm3', 'm4'))
        self.refused(SHORTCUT, ('m4', 'm1', 'm2'))
        self.accepted(RING, ('m1', 'm2', 'm3', 'm4'))
        self.accepted(RING, ('m3', 'm4', 'm1', 'm2'))

    def test_a_ring_is_not_closed(self):
        self.refused(RING, ('m1', 'm2', 'm3', 'm4', 'm1'))
        two = (('a', (('m', ('s',), ('t',)), ('n', ('t',), ('s',)))),)
        self.accepted(two, ('m', 'n'))
        self.accepted(two, ('n', 'm'))
        self.refused(two, ('m', 'n', 'm'))

    def test_a_member_that_needs_its_own_symbol(self):
        self.accepted(SELFISH, ('n', 'm'))
        self.refused(SELFISH, ('n', 'n', 'm'))
        self.refused(SELFISH, ('o', 'o'))

    def test_any_value(self):
        named = (('x', (('0', ('0',), ()), ('9', ('9',), ()), ('a', ('a',), ('b',)), ('b', ('b',), ('a',)))),)
        accepted = 0
        for archives in ((), EXAMPLE, named):
            for value in any_values():
                accepted += self.check(archives, value)
                accepted += self.check(archives, (value,))
                accepted += self.check(archives, ('a', value))
        self.assertGreater(accepted, 5)

    def test_any_value_at_every_depth(self):
        accepted = 0
        for chain in (('one',), ('one', 'two', 'cee')):
            for value in variants(chain):
                accepted += self.check(EXAMPLE, value)
        self.assertGreater(accepted, 1)

    def test_every_order_of_some_members(self):
        for archives in (EXAMPLE, RICH, RING, SELFISH, SHORTCUT):
            names = sorted(read_members(archives)) + ['x']
            for size in range(len(names) + 1):
                for value in itertools.permutations(names, size):
                    self.check(archives, value)

    def test_the_number_of_chains_does_not_matter(self):
        archives = layers_of(LAYERS_CROWDED)
        self.accepted(archives, ('m0x0', 'm1x1', 'm2x2', 'm3x0', 'm4x1', 'm5x2'))
        self.refused(archives, ('m0x0', 'm2x0'))

    def test_the_longest_chain(self):
        names = tuple(f'm{at:02}' for at in range(24))
        self.accepted(row_of(24), names)
        self.refused(row_of(24), names + names[:1])
        self.refused(row_of(24), names[:10] + names[11:])
        self.refused(row_of(24), names * 10)


class WordTest(unittest.TestCase):
    def test_equal_neighbours_are_merged(self):
        library = Library(rows_of(('aabbbacca',)))
        names = tuple(f'm0x{at}' for at in range(9))
        for start, end in itertools.combinations(range(10), 2):
            letters = [letter for letter, _ in itertools.groupby('aabbbacca'[start:end])]
            self.assertEqual(word(library, names[start:end]), tuple(letters))

    def test_other_equal_letters_are_kept(self):
        self.assertEqual(word(Library(rows_of(('abab',))), ('m0x0', 'm0x1', 'm0x2', 'm0x3')), ('a', 'b', 'a', 'b'))
        self.assertEqual(word(Library(RING), ('m1', 'm2', 'm3', 'm4')), ('a', 'b', 'd', 'a'))

    def test_a_chain_in_one_archive(self):
        self.assertEqual(word(Library(rows_of(('aaaaaa',))), ('m0x1', 'm0x2', 'm0x3')), ('a',))


class ChainsTest(unittest.TestCase):
    def test_a_library_without_members(self):
        for archives in ((), EMPTY):
            self.assertEqual(chains(Library(archives)), ())
            self.assertEqual(words(Library(archives)), ())

    def test_members_that_use_nothing(self):
        library = Library((('a', (('z', ('s',), ('s', 'x')),)), ('b', (('b', ('t',), ()), ('y', ('u',), ('x',))))))
        self.assertEqual(chains(library), (('b',), ('y',), ('z',)))
        self.assertEqual(words(library), (('a',), ('b',)))

    def test_the_order_of_chains(self):
        self.assertEqual(chains(Library(EXAMPLE)), (
            ('cee',), ('dee',), ('one',), ('two',), ('cee', 'dee'), ('one', 'two'), ('two', 'cee'),
            ('one', 'two', 'cee'), ('two', 'cee', 'dee'), ('one', 'two', 'cee', 'dee')))
        self.assertEqual(chains(Library(SHORTCUT)), (
            ('m1',), ('m2',), ('m3',), ('m4',), ('m1', 'm2'), ('m1', 'm3'), ('m2', 'm3'), ('m3', 'm4'), ('m4', 'm1'),
            ('m4', 'm2'), ('m4', 'm3'), ('m1', 'm3', 'm4'), ('m2', 'm3', 'm4'), ('m3', 'm4', 'm1'), ('m3', 'm4', 'm2'),
            ('m2', 'm3', 'm4', 'm1')))

    def test_a_ring(self):
        library = Library(RING)
        self.assertEqual(len(chains(library)), 16)
        self.assertEqual(chains(library)[12:], (
            ('m1', 'm2', 'm3', 'm4'), ('m2', 'm3', 'm4', 'm1'), ('m3', 'm4', 'm1', 'm2'), ('m4', 'm1', 'm2', 'm3')))
        self.assertEqual(words(library), (('a', 'b', 'd', 'a'), ('d', 'a', 'b')))

    def test_every_tuple_of_members_is_one_or_not(self):
        for seed in range(150):
            archives = small_archives(seed)
            library = Library(archives)
            names = sorted(read_members(archives))
            every = [value for size in range(1, len(names) + 1) for value in itertools.permutations(names, size)]
            expected = [value for value in every if reads_as_chain(archives, value)]
            self.assertEqual(chains(library), tuple(sorted(expected, key=lambda value: (len(value), value))))

    def test_samples(self):
        many = 0
        for archives in [sample_archives(seed) for seed in range(200)] + list(ALL):
            library = Library(archives)
            found = read_chains(archives)
            self.assertLessEqual(len(found), 1000)
            self.assertEqual(chains(library), found)
            self.assertEqual(words(library), read_words(archives))
            self.assertTrue(all(is_chain(library, chain) for chain in found))
            many += len(found) > 40
        self.assertGreater(many, 10)

    def test_number_of_chains(self):
        for widths, single, count in ((LAYERS_1000, 0, 1000), (LAYERS_1000, 1, 1001), (LAYERS_1000, 2, 1002),
                                      (LAYERS_CROWDED, 0, 1629), ((3, 3, 3, 3, 3), 0, 537), ((4, 4, 4, 4, 4, 4), 0, 7272)):
            archives = layers_of(widths, single)
            self.assertEqual(len(read_chains(archives)), count)
            library = Library(archives)
            if count <= 1000:
                self.assertEqual(chains(library), read_chains(archives))
                self.assertEqual(words(library), read_words(archives))
                continue
            for function in (chains, words):
                with self.assertRaises(TooManyChains) as context:
                    function(library)
                self.assertIs(type(context.exception), TooManyChains)

    def test_chains_are_counted_and_not_words(self):
        members = sorted(member for _, members in layers_of(LAYERS_1000) for member in members)
        archives = (('a', tuple(members)),)
        self.assertEqual(len(chains(Library(archives))), 1000)
        self.assertEqual(words(Library(archives)), (('a',),))
        more = (('a', archives[0][1] + (('n', ('t',), ()),)),)
        self.assertRaises(TooManyChains, words, Library(more))
        self.assertRaises(TooManyChains, chains, Library(more))

    def test_far_too_many_chains(self):
        # These have 14748 and 16356 chains.
        for widths in ((3,) * 8, (2,) * 12):
            for function in (chains, words):
                self.assertRaises(TooManyChains, function, Library(layers_of(widths)))


class WordsTest(unittest.TestCase):
    def test_a_part_of_another_word_is_left_out(self):
        self.assertEqual(words(Library(rows_of(('abc', 'ac', 'ca', 'b')))), (('a', 'b', 'c'), ('c', 'a')))
        self.assertEqual(words(Library(rows_of(('abab', 'baba', 'bb', 'aab')))), (('a', 'b', 'a', 'b'), ('b', 'a', 'b', 'a')))
        self.assertEqual(words(Library(rows_of(('abcabc', 'bcab', 'cc', 'acac')))), (tuple('abcabc'),))
        self.assertEqual(words(Library(rows_of(('abcabc', 'ccba')))), (tuple('abcabc'), tuple('cba')))

    def test_equal_words_stand_once(self):
        self.assertEqual(words(Library(rows_of(('ab', 'ab', 'aabb', 'abb')))), (('a', 'b'),))

    def test_the_order_is_that_of_tuples_and_not_of_lengths(self):
        self.assertEqual(words(Library(rows_of(('dc', 'bca', 'cdad')))), (('b', 'c', 'a'), tuple('cdad'), ('d', 'c')))
        self.assertEqual(words(Library(rows_of(('da', 'bca', 'cdad')))), (('b', 'c', 'a'), tuple('cdad')))
        self.assertEqual(words(Library(rows_of(('ba', 'acbc', 'cac')))), (tuple('acbc'), ('b', 'a'), tuple('cac')))

    def test_names_of_several_letters(self):
        archives = (('a', (('m1', ('s1',), ('s2',)),)), ('ab', (('m2', ('s2',), ('s3',)),)), ('b', (('m3', ('s3',), ()),)))
        self.assertEqual(words(Library(archives)), (('a', 'ab', 'b'),))

    def test_many_words(self):
        self.assertEqual(words(Library(rows_of(ROWS_5000))), tuple(sorted(tuple(row) for row in ROWS_5000)))

    def test_none_is_a_part_of_another_and_each_word_is_a_part_of_one(self):
        for seed in range(100):
            archives = sample_archives(seed)
            library = Library(archives)
            found = words(library)
            self.assertEqual(list(found), sorted(set(found)))
            for one, other in itertools.permutations(found, 2):
                self.assertFalse(reads_as_part(one, other))
            for chain in chains(library):
                self.assertTrue(any(reads_as_part(word(library, chain), letters) for letters in found))


class ConventionsTest(unittest.TestCase):
    def test_arguments_by_name_in_any_order(self):
        library = Library(EXAMPLE)
        self.assertEqual(keyword_calls(uses, library=library), [uses(library)])
        self.assertEqual(keyword_calls(is_chain, library=library, value=('one', 'two')), [True] * 2)
        self.assertEqual(keyword_calls(is_chain, library=library, value=('two', 'one')), [False] * 2)
        self.assertEqual(keyword_calls(word, library=library, chain=('one', 'two')), [('a', 'b')] * 2)
        self.assertEqual(keyword_calls(chains, library=library), [chains(library)])
        self.assertEqual(keyword_calls(words, library=library), [(('a', 'b', 'a', 'b'),)])
        value = ['one']
        with self.assertRaises(InvalidChain) as context:
            word(chain=value, library=library)
        self.assertIs(context.exception.value, value)

    def test_equal_calls_return_equal_tuples_and_change_nothing(self):
        library, chain = Library(copy.deepcopy(RICH)), ('m1', 'm2', 'm3')
        inside = repr(vars(library))
        for _ in range(3):
            results = (uses(library), word(library, chain), chains(library), words(library))
            self.assertEqual(results, (read_uses(RICH), ('a1', 'c3'), read_chains(RICH), (('a1', 'c3', 'a1'),)))
            self.assertTrue(only_tuples(results))
            self.assertTrue(same_value(chain, ('m1', 'm2', 'm3')))
            self.assertTrue(same_value(library.archives, RICH))
            self.assertEqual(repr(vars(library)), inside)


if __name__ == '__main__':
    unittest.main()

"""Point 13 and the guarantees (e) and (g): repaired, pruned and grouped lines."""

import copy
import itertools
import random
import unittest

from linkorder.errors import DoesNotServe, InvalidLine, TooManyChains, TooManyStates
from linkorder.libraries import Library
from linkorder.linking import is_line
from linkorder.repairs import grouped_line, pruned, repaired
from linkorder.serving import serves
from linkorder.shortest import shortest_line
from tests.helpers import (
    EXAMPLE, LAYERS_1000, LAYERS_CROWDED, RICH, RING, ROWS_5000, ROWS_5001, any_values, keyword_calls, layers_of,
    only_tuples, plain_lines, read_grouped, read_leads, read_pruned, read_repaired, reads_as_line, reads_as_part,
    reads_as_plain_line, reads_as_serving, row_of, rows_of, run_examples, same_value, sample_archives, small_archives,
    variants,
)

DOCUMENT = """
>>> from linkorder.repairs import grouped_line, pruned, repaired
>>> (repaired(library, ('b', 'b', 'a')), pruned(library, ('b', 'a', 'a', 'b', 'a', 'b')), grouped_line(library))
(('a', 'b', 'a', 'b', 'a'), ('a', 'b', 'a', 'b'), (('a', 'b'),))
"""

EMPTY = (('a', ()), ('b', ()))


def random_lines(source, names, count, longest):
    return [tuple(source.choice(names) for _ in range(source.randint(0, longest) if names else 0)) for _ in range(count)]


class DocumentTest(unittest.TestCase):
    def test_the_example_of_the_document(self):
        self.assertEqual(run_examples(DOCUMENT, {'library': Library(EXAMPLE)}), (2, 0))


class LinesTest(unittest.TestCase):
    """Which values are lines without groups, for both functions."""

    def check(self, archives, value):
        library = Library(archives)
        before = copy.deepcopy(value)
        valid = reads_as_plain_line(archives, value)
        if not valid:
            for function in (repaired, pruned):
                with self.assertRaises(InvalidLine) as context:
                    function(library, value)
                self.assertIs(type(context.exception), InvalidLine)
                self.assertIs(context.exception.value, value)
        else:
            longer = repaired(library, value)
            self.assertIs(reads_as_serving(archives, longer) and reads_as_part(value, longer), True)
            if reads_as_serving(archives, value):
                self.assertEqual(longer, value)
                self.assertIs(reads_as_serving(archives, pruned(library, value)), True)
            else:
                with self.assertRaises(DoesNotServe) as context:
                    pruned(library, value)
                self.assertIs(type(context.exception), DoesNotServe)
                self.assertIs(context.exception.value, value)
        self.assertTrue(same_value(value, before))
        return valid

    def test_any_value(self):
        for archives in ((), EMPTY, EXAMPLE, (('a', ()), ('archive', ())), RING):
            for value in any_values():
                self.check(archives, value)
                self.check(archives, (value,))

    def test_any_value_at_every_depth(self):
        accepted = 0
        for line in (('a', 'b', 'a', 'b'), ('a', ('a', 'b')), ()):
            for value in variants(line):
                accepted += self.check(EXAMPLE, value)
        self.assertGreater(accepted, 10)

    def test_number_of_items(self):
        for count in (0, 1, 4, 199, 200, 201, 202):
            for archives in (EXAMPLE, EMPTY):
                self.assertIs(self.check(archives, (('a', 'b') * count)[:count]), count <= 200)
                self.assertIs(self.check(archives, ('a',) * count), count <= 200)

    def test_groups_are_refused(self):
        for line in ((('a', 'b'),), ('a', ('a', 'b')), ('a', 'b', 'a', 'b', ('a', 'b')), ('a',) * 199 + (('a', 'b'),)):
            self.assertIs(reads_as_line(EXAMPLE, line), True)
            self.assertFalse(self.check(EXAMPLE, line))


class RepairedTest(unittest.TestCase):
    def check(self, archives, line, expected=None):
        library = Library(archives)
        longer = repaired(library, line)
        self.assertTrue(same_value(longer, read_repaired(archives, line) if expected is None else expected))
        self.assertIs(reads_as_serving(archives, longer) and reads_as_part(line, longer), True)
        return len(longer) - len(line)

    def test_the_empty_line(self):
        for archives in ((), EMPTY, EXAMPLE, RICH, RING, rows_of(('abc', 'acb', 'cab'))):
            self.check(archives, (), shortest_line(Library(archives)))

    def test_every_line_of_small_lengths(self):
        for archives in (EXAMPLE, RICH, EMPTY, rows_of(('ab', 'ba')), rows_of(('b',), 'ac'), rows_of(('ab', 'cb'))):
            for length in range(5 if len(archives) < 3 else 4):
                for line in plain_lines(archives, length):
                    self.check(archives, line)

    def test_a_line_that_serves_stays_as_it_is(self):
        for line in (('a', 'b', 'a', 'b'), ('b', 'a', 'b', 'a', 'a', 'b', 'b'), ('a', 'b') * 100, ('a', 'a', 'b') * 66):
            self.check(EXAMPLE, line, line)
        for line in ((), ('a',), ('b', 'a', 'b'), ('b',) * 200):
            self.check(EMPTY, line, line)

    def test_small_libraries(self):
        inserted = 0
        for seed in range(60):
            archives = small_archives(seed)
            names = [name for name, _ in archives]
            for line in random_lines(random.Random(seed), names, 4, 4):
                inserted += self.check(archives, line) > 0
        self.assertGreater(inserted, 60)

    def test_samples(self):
        """The fewest insertions: no line with the same part and one item less serves, nor a lesser one of this length."""
        tried = 0
        for seed in range(80):
            archives = sample_archives(seed)
            names = [name for name, _ in archives]
            for line in random_lines(random.Random(seed), names, 3, 4):
                longer = repaired(Library(archives), line)
                if len(names) ** len(longer) < 3000:
                    tried += self.check(archives, line) > 0
        self.assertGreater(tried, 40)

    def test_an_item_of_the_line_that_is_of_no_use_is_kept(self):
        self.check(rows_of(('ab',), 'c'), ('c', 'c'), ('a', 'b', 'c', 'c'))
        self.check(rows_of(('bc',), 'a'), ('c', 'a', 'a'), ('b', 'c', 'a', 'a'))
        self.check(rows_of(('cd',), 'ab'), ('b', 'a'), ('b', 'a', 'c', 'd'))

    def test_the_least_of_several_places(self):
        self.check(rows_of(('ab',)), ('b', 'a'), ('a', 'b', 'a'))
        self.check(rows_of(('ab',)), ('a', 'a'), ('a', 'a', 'b'))
        self.check(rows_of(('ab',)), ('b', 'b'), ('a', 'b', 'b'))
        self.check(rows_of(('ba',)), ('b', 'b'), ('b', 'a', 'b'))
        self.check(EXAMPLE, ('b', 'b', 'a'), ('a', 'b', 'a', 'b', 'a'))

    def test_a_line_of_more_than_200_items(self):
        library = Library(rows_of(('ab',)))
        for count in (198, 199, 200):
            longer = repaired(library, ('a',) * count)
            self.assertEqual(longer, ('a',) * count + ('b',))
            self.assertIs(is_line(library, longer), count < 200)
        for function in (repaired, pruned, serves):
            with self.assertRaises(InvalidLine) as context:
                function(library, longer)
            self.assertIs(context.exception.value, longer)
        longer = repaired(Library(row_of(24)), ('a7',) * 200)
        self.assertEqual(longer, tuple(f'a{at}' for at in range(8)) * 3 + ('a7',) * 197)
        longer = repaired(Library(rows_of(('ab' * 12,))), ('b',) * 200)
        self.assertEqual(longer, ('a', 'b') * 12 + ('b',) * 188)

    def test_long_lines(self):
        library = Library(EXAMPLE)
        for line, longer in ((('a',) * 100 + ('b',) * 100, ('a',) * 100 + ('b', 'a') + ('b',) * 99),
                             (('b',) * 100 + ('a',) * 100, ('a', 'b', 'a') + ('b',) * 99 + ('a',) * 100)):
            self.assertEqual(repaired(library, line), longer)


class PrunedTest(unittest.TestCase):
    def check(self, archives, line):
        library = Library(archives)
        expected = read_pruned(archives, line)
        if expected is None:
            with self.assertRaises(DoesNotServe) as context:
                pruned(library, line)
            self.assertIs(type(context.exception), DoesNotServe)
            self.assertIs(context.exception.value, line)
            return 0
        shorter = pruned(library, line)
        self.assertTrue(same_value(shorter, expected))
        self.assertIs(reads_as_serving(archives, shorter) and reads_as_part(shorter, line), True)
        return len(line) - len(shorter)

    def test_every_line_of_small_lengths(self):
        for archives in (EXAMPLE, RICH, EMPTY, rows_of(('ab', 'ba')), rows_of(('b',), 'ac'), rows_of(('ab', 'cb'))):
            for length in range(7 if len(archives) < 3 else 6):
                for line in plain_lines(archives, length):
                    self.check(archives, line)

    def test_libraries_without_words(self):
        for archives, lines in (((), ((),)), (EMPTY, ((), ('a',), ('b', 'a', 'b'), ('a', 'b') * 100))):
            for line in lines:
                self.assertEqual(pruned(Library(archives), line), ())

    def test_samples(self):
        removed = 0
        for seed in range(150):
            archives, source = sample_archives(seed), random.Random(seed)
            library = Library(archives)
            names = library.names()
            shortest = shortest_line(library)
            for line in random_lines(source, names, 2, 8):
                self.check(archives, line)
            if len(shortest) > 8:
                continue
            for _ in range(4 if names else 0):
                # A line that serves, with something put in between.
                line = list(shortest)
                for _ in range(source.randint(1, 3)):
                    line.insert(source.randint(0, len(line)), source.choice(names))
                removed += self.check(archives, tuple(line)) > 0
        self.assertGreater(removed, 200)

    def test_a_part_that_is_longer_than_the_shortest_line(self):
        archives = rows_of(('ab', 'cb'))
        self.assertEqual(len(shortest_line(Library(archives))), 3)
        self.assertEqual(pruned(Library(archives), tuple('abbcbb')), tuple('acb'))
        archives = rows_of(('ab', 'ba', 'ca'))
        self.assertEqual(shortest_line(Library(archives)), tuple('abca'))
        self.assertEqual(pruned(Library(archives), tuple('bbcaab')), tuple('bcab'))
        self.assertEqual(pruned(Library(archives), tuple('babca')), tuple('abca'))
        self.assertEqual(pruned(Library(archives), tuple('caabba')), tuple('caba'))
        archives = rows_of(('abc', 'cab'))
        self.assertEqual(pruned(Library(archives), tuple('aabbcab')), tuple('abcab'))
        self.assertEqual(pruned(Library(archives), tuple('ccabbc')), tuple('cabc'))

    def test_long_lines(self):
        library = Library(EXAMPLE)
        self.assertEqual(pruned(library, ('a', 'b') * 100), ('a', 'b', 'a', 'b'))
        self.assertEqual(pruned(library, ('b',) * 100 + ('a', 'b') * 50), ('a', 'b', 'a', 'b'))
        names = Library(row_of(24)).names()
        self.assertEqual(pruned(Library(row_of(24)), names * 25), names * 3)
        self.assertEqual(pruned(Library(row_of(24)), names[::-1] * 25), names * 3)
        library = Library(rows_of(('ab', 'ba', 'ca')))
        self.assertEqual(pruned(library, tuple('b') * 66 + tuple('c') * 66 + tuple('a') * 66 + ('b', 'b')), tuple('bcab'))


class SearchErrorsTest(unittest.TestCase):
    def raised(self, archives, kind):
        """Check that both functions raise this error, whether the line serves or not."""
        library = Library(archives)
        names = library.names()
        for function, line in itertools.product((repaired, pruned), ((), names[:1], names, names * 25, names[::-1] * 3)):
            with self.assertRaises(kind) as context:
                function(library, line)
            self.assertIs(type(context.exception), kind)

    def test_five_thousand_states(self):
        library = Library(rows_of(ROWS_5000))
        names = library.names()
        shortest = shortest_line(library)
        self.assertEqual(repaired(library, ()), shortest)
        self.assertEqual(pruned(library, names * 25), shortest)
        longer = repaired(library, names[::-1] * 2)
        self.assertIs(serves(library, longer) and reads_as_part(names[::-1] * 2, longer), True)
        part = pruned(library, longer)
        self.assertIs(serves(library, part) and reads_as_part(part, longer), True)
        self.assertTrue(len(shortest) <= len(part) < len(longer))
        with self.assertRaises(DoesNotServe) as context:
            pruned(library, names)
        self.assertIs(context.exception.value, names)

    def test_more_than_five_thousand_states(self):
        self.raised(rows_of(ROWS_5001), TooManyStates)

    def test_more_than_a_thousand_chains(self):
        archives = layers_of(LAYERS_1000, 1)
        members = tuple(sorted(member for _, members in archives for member in members))
        for crowded in (archives, layers_of(LAYERS_CROWDED), (('a', members),)):
            self.raised(crowded, TooManyChains)
        library = Library((('a', members[:-1]), ('b', ())))
        self.assertEqual(repaired(library, ('b',)), ('a', 'b'))
        self.assertEqual(pruned(library, ('b', 'a', 'b')), ('a',))

    def test_an_invalid_line_comes_first(self):
        for archives in (layers_of(LAYERS_CROWDED), layers_of(LAYERS_1000, 1), rows_of(ROWS_5001)):
            library = Library(archives)
            names = library.names()
            for value in (None, [], list(names), ('zz',), names * 26, (names,), (names[0], names[:2]), 'a', 7, {}):
                for function in (repaired, pruned):
                    with self.assertRaises(InvalidLine) as context:
                        function(library, value)
                    self.assertIs(context.exception.value, value)


def ordered_groupings(names):
    """Return every line in which each name stands once, alone or in a group."""
    if not names:
        return [()]
    found = []
    for size in range(1, len(names) + 1):
        for first in itertools.combinations(names, size):
            rest = tuple(name for name in names if name not in first)
            found += [(first if size > 1 else first[0],) + line for line in ordered_groupings(rest)]
    return found


def group_of(line, name):
    return next(item for item in line if item == name or type(item) is tuple and name in item)


class GroupedLineTest(unittest.TestCase):
    def check(self, archives, line=None):
        library = Library(archives)
        grouped = grouped_line(library)
        self.assertTrue(same_value(grouped, read_grouped(archives)))
        self.assertIs(reads_as_line(archives, grouped), True)
        stands = [name for item in grouped for name in ((item,) if type(item) is str else item)]
        self.assertEqual(sorted(stands), [name for name, members in archives if members])
        if line is not None:
            self.assertEqual(grouped, line)
        return grouped

    def test_libraries_without_members(self):
        for archives in ((), EMPTY, (('a', ()),)):
            self.check(archives, ())

    def test_archives_in_one_group(self):
        self.check(EXAMPLE, (('a', 'b'),))
        self.check(RING, (('a', 'b', 'd'),))
        self.check(RICH, (('a1', 'c3'),))
        self.check(rows_of(('abcdefgha',)), (tuple('abcdefgh'),))

    def test_archives_that_do_not_lead_to_each_other(self):
        self.check(rows_of(('c', 'b', 'a')), ('a', 'b', 'c'))
        self.check(rows_of(('a', 'aa', 'aaa')), ('a',))
        self.check(rows_of(('c', 'a'), 'bd'), ('a', 'c'))

    def test_the_order(self):
        self.check(rows_of(('cba',)), ('c', 'b', 'a'))
        self.check(rows_of(('ca', 'b')), ('b', 'c', 'a'))
        self.check(rows_of(('da', 'b', 'c')), ('b', 'c', 'd', 'a'))
        self.check(rows_of(('ba', 'dc')), ('b', 'a', 'd', 'c'))
        self.check(rows_of(('ca', 'da')), ('c', 'd', 'a'))
        self.check(rows_of(('hgfedcba',)), tuple('hgfedcba'))

    def test_groups_among_single_archives(self):
        self.check(rows_of(('bcb', 'a')), ('a', ('b', 'c')))
        self.check(rows_of(('bdb', 'ba', 'cd')), ('c', ('b', 'd'), 'a'))
        self.check(rows_of(('cacb', 'dfd', 'ed', 'ac')), (('a', 'c'), 'b', 'e', ('d', 'f')))
        self.check(rows_of(('dad', 'cb')), (('a', 'd'), 'c', 'b'))
        self.check(rows_of(('dad', 'bd')), ('b', ('a', 'd')))

    def test_the_first_name_of_a_group_decides_its_place(self):
        self.check(rows_of(('aha', 'b', 'c')), (('a', 'h'), 'b', 'c'))
        self.check(rows_of(('chc', 'b', 'd')), ('b', ('c', 'h'), 'd'))
        self.check(rows_of(('bdb', 'cac')), (('a', 'c'), ('b', 'd')))

    def test_an_archive_may_lead_to_one_by_different_members(self):
        # No member of b that a uses leads on to c, but b does.
        archives = (('a', (('m1', ('s1',), ('s2',)),)), ('b', (('m2', ('s2',), ()), ('m3', ('s3',), ('s4',)))),
                    ('c', (('m4', ('s4',), ('s1',)),)))
        self.check(archives, (('a', 'b', 'c'),))

    def test_an_archive_that_needs_only_itself_or_what_nothing_defines(self):
        archives = (('a', (('m1', ('s1',), ('s1', 'x')), ('m2', ('s2',), ('s1',)))), ('b', (('m3', ('s3',), ('y',)),)))
        self.check(archives, ('a', 'b'))

    def test_samples(self):
        groups = 0
        for seed in range(200):
            grouped = self.check(sample_archives(seed))
            groups += any(type(item) is tuple for item in grouped) and any(type(item) is str for item in grouped)
        self.assertGreater(groups, 20)

    def test_every_way_to_group_the_archives(self):
        """The line serves, and every line that serves and names each archive once has these groups in its own ones."""
        seen = {True: 0, False: 0}
        samples = [sample_archives(seed) for seed in range(120)] + [small_archives(seed) for seed in range(60)]
        for archives in samples:
            library = Library(archives)
            names = tuple(name for name, members in archives if members)
            if len(names) > 4:
                continue
            grouped = grouped_line(library)
            self.assertIs(serves(library, grouped), True)
            ways = ordered_groupings(names)
            self.assertIn(grouped, ways)
            for line in ways:
                serving = reads_as_serving(archives, line)
                seen[serving] += 1
                for group in (item for item in grouped if type(item) is tuple and serving):
                    self.assertEqual(len({group_of(line, name) for name in group}), 1)
        self.assertGreater(min(seen.values()), 300)

    def test_the_items_stand_in_an_order_that_serves(self):
        for seed in range(120):
            archives = sample_archives(seed)
            grouped = grouped_line(Library(archives))
            leads = read_leads(archives)
            items = [(item,) if type(item) is str else item for item in grouped]
            for sooner, later in itertools.combinations(items, 2):
                self.assertEqual(leads & set(itertools.product(later, sooner)), set())
            self.assertIs(reads_as_serving(archives, grouped), True)

    def test_neither_chains_nor_states_count(self):
        for archives in (layers_of(LAYERS_1000, 1), layers_of(LAYERS_CROWDED), layers_of((4,) * 6), rows_of(ROWS_5001)):
            grouped = self.check(archives)
            if archives != layers_of((4,) * 6):
                self.assertIs(reads_as_serving(archives, grouped), True)


class ConventionsTest(unittest.TestCase):
    def test_arguments_by_name_in_any_order(self):
        library = Library(EXAMPLE)
        self.assertEqual(keyword_calls(repaired, library=library, line=('b', 'b', 'a')), [tuple('ababa')] * 2)
        self.assertEqual(keyword_calls(pruned, library=library, line=tuple('baabab')), [tuple('abab')] * 2)
        self.assertEqual(keyword_calls(grouped_line, library=library), [(('a', 'b'),)])
        value = ['a']
        for function in (repaired, pruned):
            with self.assertRaises(InvalidLine) as context:
                function(line=value, library=library)
            self.assertIs(context.exception.value, value)

    def test_equal_calls_return_equal_tuples_and_change_nothing(self):
        library, line = Library(copy.deepcopy(RING)), tuple('abdabd')
        inside = repr(vars(library))
        for _ in range(3):
            results = (repaired(library, line[:2]), pruned(library, line), grouped_line(library))
            self.assertTrue(same_value(results, (tuple('abdab'), tuple('abdab'), (('a', 'b', 'd'),))))
            self.assertTrue(only_tuples(results))
            self.assertTrue(same_value(line, tuple('abdabd')))
            self.assertEqual(repr(vars(library)), inside)


if __name__ == '__main__':
    unittest.main()

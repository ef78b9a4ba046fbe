"""Point 9 and guarantee (c): states, distances and the shortest line."""

import copy
import itertools
import random
import unittest

from linkorder.chains import words
from linkorder.errors import InvalidLine, TooManyChains, TooManyStates
from linkorder.libraries import Library
from linkorder.serving import serves
from linkorder.shortest import distance, shortest_line, state_after
from tests.helpers import (
    EXAMPLE, LAYERS_1000, LAYERS_CROWDED, RICH, RING, ROWS_5000, ROWS_5001, ROWS_5001_LEFT, any_values,
    buildable_programs, keyword_calls, layers_of, only_tuples, read_chains, read_lines, read_link, read_step, read_word, read_words,
    reads_as_line, reads_as_serving, row_of, rows_of, run_examples, same_value, sample_archives, small_archives,
    some_lines, variants,
)

DOCUMENT = """
>>> from linkorder.shortest import distance, shortest_line, state_after
>>> (shortest_line(library), state_after(library, ('b', 'a', 'a')), distance(library, (1,)))
(('a', 'b', 'a', 'b'), (1,), 3)
"""

EMPTY = (('a', ()), ('b', ()))


def start_of(every):
    return (0,) * len(every)


def end_of(every):
    return tuple(len(letters) for letters in every)


def read_shortest(archives):
    """Return the least of the shortest lines along which the words of all chains are read, none of them left out."""
    every = sorted({read_word(archives, chain) for chain in read_chains(archives)})
    return read_lines(archives, every, start_of(every))[end_of(every)]


class DocumentTest(unittest.TestCase):
    def test_the_example_of_the_document(self):
        self.assertEqual(run_examples(DOCUMENT, {'library': Library(EXAMPLE)}), (2, 0))


class ShortestLineTest(unittest.TestCase):
    def check(self, archives, line):
        library = Library(archives)
        every = read_words(archives)
        self.assertEqual(shortest_line(library), line)
        self.assertIs(serves(library, line), True)
        self.assertEqual(state_after(library, line), end_of(every))
        self.assertEqual(distance(library, start_of(every)), len(line))
        self.assertEqual(distance(library, end_of(every)), 0)

    def test_a_library_without_words(self):
        for archives in ((), EMPTY):
            self.check(archives, ())
            self.assertEqual(state_after(Library(archives), ()), ())
            self.assertEqual(distance(Library(archives), ()), 0)
        self.assertEqual(state_after(Library(EMPTY), ('a', 'b', 'a')), ())

    def test_one_word(self):
        for row in ('a', 'ab', 'aba', 'abcba', 'abababab', 'hgfedcba', 'aabbccaab'):
            self.check(rows_of((row,)), tuple(letter for letter, _ in itertools.groupby(row)))

    def test_several_words(self):
        self.check(rows_of(('ab', 'ba')), ('a', 'b', 'a'))
        self.check(rows_of(('abc', 'acb', 'cab')), tuple('abcab'))
        self.check(rows_of(('ab', 'cd')), tuple('abcd'))
        self.check(rows_of(('cd', 'ab')), tuple('abcd'))
        self.check(rows_of(('ca', 'ab')), tuple('cab'))
        self.check(rows_of(('b', 'a', 'c')), tuple('abc'))

    def test_the_least_line_is_not_the_one_that_reads_most_letters_at_first(self):
        # The letter that most words begin with is not the first one of the least line.
        self.check(rows_of(('bc', 'bd', 'ae')), tuple('abcde'))
        self.check(rows_of(('ba', 'bca', 'cb')), tuple('bcab'))

    def test_a_ring(self):
        self.check(RING, tuple('abdab'))
        self.check(RICH, ('a1', 'c3', 'a1'))

    def test_an_archive_without_members_does_not_stand_in_it(self):
        self.check(rows_of(('bd', 'db'), 'aceg'), tuple('bdb'))

    def test_a_member_that_needs_its_own_symbol(self):
        self.check((('a', (('m', ('s', 't'), ('s', 't')),)), ('b', (('n', ('u',), ('s', 'u')),))), ('b', 'a'))

    def test_names_of_several_letters_are_ordered_as_strings(self):
        archives = (('a', (('m1', ('s1',), ()),)), ('a10', (('m2', ('s2',), ()),)), ('a9', (('m3', ('s3',), ()),)))
        self.check(archives, ('a', 'a10', 'a9'))

    def test_long_lines(self):
        self.check(row_of(24), tuple(f'a{at}' for at in range(8)) * 3)
        self.check(rows_of(('ab' * 12,)), ('a', 'b') * 12)
        self.check(rows_of(('ab' * 6, 'cd' * 6)), ('a', 'b') * 6 + ('c', 'd') * 6)

    def test_samples(self):
        longest = 0
        for seed in range(200):
            archives = sample_archives(seed)
            line = read_shortest(archives)
            self.check(archives, line)
            longest = max(longest, len(line))
        self.assertGreater(longest, 6)

    def test_every_line_that_is_shorter_or_less_does_not_serve(self):
        tried = 0
        for seed in range(150):
            archives = sample_archives(seed)
            names = tuple(archive[0] for archive in archives)
            line = shortest_line(Library(archives))
            if len(names) ** len(line) > 3000:
                continue
            for size in range(len(line) + 1):
                for other in itertools.product(names, repeat=size):
                    if (len(other), other) < (len(line), line):
                        self.assertIs(serves(Library(archives), other), False)
                        tried += 1
            self.assertIs(reads_as_serving(archives, line), True)
        self.assertGreater(tried, 1000)

    def test_lines_that_link_every_buildable_program(self):
        source = random.Random(9)
        for seed in range(40):
            archives = small_archives(seed)
            names = tuple(archive[0] for archive in archives)
            programs = buildable_programs(archives, ('s0', 's1', 's2', 's3', 'x'))
            found = None
            for line in itertools.chain(*(itertools.product(names, repeat=size) for size in range(9))):
                if all(read_link(archives, line, program, source)[1:] == ((), ()) for program in programs):
                    found = line
                    break
            self.check(archives, found)


class StatesTest(unittest.TestCase):
    def refused(self, archives, value):
        library = Library(archives)
        before = copy.deepcopy(value)
        with self.assertRaises(InvalidLine) as context:
            state_after(library, value)
        self.assertIs(type(context.exception), InvalidLine)
        self.assertIs(context.exception.value, value)
        self.assertTrue(same_value(value, before))

    def accepted(self, archives, value):
        before = copy.deepcopy(value)
        every = read_words(archives)
        state = start_of(every)
        for archive in value:
            state = read_step(every, state, archive)
        self.assertTrue(same_value(state_after(Library(archives), value), state))
        self.assertTrue(same_value(value, before))

    def check(self, archives, value):
        valid = reads_as_line(archives, value) and not any(type(item) is tuple for item in value)
        (self.accepted if valid else self.refused)(archives, value)
        return valid

    def test_the_empty_line(self):
        self.assertEqual(state_after(Library(EXAMPLE), ()), (0,))
        self.assertEqual(state_after(Library(RING), ()), (0, 0))
        self.assertEqual(state_after(Library(()), ()), ())

    def test_one_letter_of_each_word_that_has_it_next(self):
        library = Library(rows_of(('abc', 'acb', 'cab'), 'd'))
        self.assertEqual(words(library), (tuple('abc'), tuple('acb'), tuple('cab')))
        for line, state in (('a', (1, 1, 0)), ('b', (0, 0, 0)), ('aa', (1, 1, 0)), ('ab', (2, 1, 0)), ('ac', (1, 2, 1)),
                            ('aca', (1, 2, 2)), ('acab', (2, 3, 3)), ('acabc', (3, 3, 3)), ('acabcabcddd', (3, 3, 3)),
                            ('dadcd', (1, 2, 1)), ('d', (0, 0, 0))):
            self.assertEqual(state_after(library, tuple(line)), state)

    def test_groups_are_refused(self):
        for line in ((('a', 'b'),), ('a', ('a', 'b')), (('a', 'b'), 'b'), ('a',) * 199 + (('a', 'b'),)):
            self.assertIs(reads_as_line(EXAMPLE, line), True)
            self.refused(EXAMPLE, line)
        self.refused(EMPTY, (('a', 'b'),))

    def test_number_of_items(self):
        for count in (0, 1, 2, 199, 200, 201, 202):
            line = (('a', 'b') * count)[:count]
            (self.accepted if count <= 200 else self.refused)(EXAMPLE, line)
            (self.accepted if count <= 200 else self.refused)(EMPTY, line)

    def test_any_value(self):
        for archives in ((), EXAMPLE, EMPTY, (('a', ()), ('archive', ())), RING):
            for value in any_values():
                self.check(archives, value)
                self.check(archives, (value,))

    def test_any_value_at_every_depth(self):
        accepted = 0
        for line in (('a', 'b', 'a'), ('a', ('a', 'b')), ()):
            for value in variants(line):
                accepted += self.check(EXAMPLE, value)
        self.assertGreater(accepted, 10)

    def test_samples(self):
        for seed in range(100):
            archives = sample_archives(seed)
            for line in some_lines(random.Random(seed), archives, 6):
                self.check(archives, line)


class DistanceTest(unittest.TestCase):
    def test_every_state_of_samples(self):
        states = 0
        for seed in range(60):
            archives = sample_archives(seed)
            every = read_words(archives)
            reached = sorted(read_lines(archives, every, start_of(every)))
            for state in reached if len(reached) < 30 else random.Random(seed).sample(reached, 30):
                expected = len(read_lines(archives, every, state)[end_of(every)])
                self.assertTrue(same_value(distance(Library(archives), state), expected))
                states += 1
        self.assertGreater(states, 300)

    def test_one_word(self):
        library = Library(rows_of(('abcabc',)))
        for read in range(7):
            self.assertEqual(distance(library, (read,)), 6 - read)

    def test_letters_that_are_read_at_once_count_once(self):
        library = Library(rows_of(('ab', 'cb')))
        self.assertEqual([distance(library, state) for state in ((0, 0), (1, 0), (0, 1), (1, 1), (2, 2))], [3, 2, 2, 1, 0])


class SearchErrorsTest(unittest.TestCase):
    def states(self, archives, limit):
        every = read_words(archives)
        return len(read_lines(archives, every, start_of(every), limit))

    def raised(self, archives, kind):
        """Check that every function of the section raises this error for valid arguments."""
        library = Library(archives)
        start = start_of(read_words(archives))
        for function, arguments in ((shortest_line, ()), (state_after, ((),)), (state_after, (library.names(),)),
                                    (state_after, (library.names() * 25,)), (distance, (start,))):
            with self.assertRaises(kind) as context:
                function(library, *arguments)
            self.assertIs(type(context.exception), kind)

    def test_five_thousand_states(self):
        archives = rows_of(ROWS_5000)
        self.assertEqual(self.states(archives, 6000), 5000)
        library = Library(archives)
        every = read_words(archives)
        lines = read_lines(archives, every, start_of(every))
        self.assertEqual(shortest_line(library), lines[end_of(every)])
        # The words are bada, bcd, cacab, dbda, efef and ghgh.
        self.assertEqual(state_after(library, library.names()), (1, 3, 1, 1, 2, 2))
        self.assertEqual(distance(library, start_of(every)), len(lines[end_of(every)]))
        self.assertEqual(distance(library, end_of(every)), 0)

    def test_more_than_five_thousand_states(self):
        self.assertEqual(self.states(rows_of(ROWS_5001), 6000), 5001)
        self.raised(rows_of(ROWS_5001), TooManyStates)
        self.assertEqual(self.states(rows_of(ROWS_5001_LEFT), 6000), 5001)
        self.raised(rows_of(ROWS_5001_LEFT), TooManyStates)
        rows = ('abc', 'bad', 'cef', 'dgh', 'eha', 'fb', 'gc', 'hd', 'ac')
        self.assertEqual(self.states(rows_of(rows), 6000), 5927)
        self.raised(rows_of(rows), TooManyStates)

    def test_only_states_that_can_be_reached_count(self):
        # The numbers of letters of these words make 5 ** 6 tuples, but the words are read almost at the same time.
        rows = ('abcd', 'abce', 'abcf', 'abde', 'abdf', 'abef')
        archives = rows_of(rows)
        self.assertLess(self.states(archives, 6000), 200)
        self.assertEqual(shortest_line(Library(archives)), tuple('abcdef'))

    def test_archives_without_members_do_not_count(self):
        archives = rows_of(('abababab', 'cdcdcdcd', 'babababa'), 'efgh')
        self.assertEqual(shortest_line(Library(archives)), tuple('abababab') + tuple('acdcdcdcd'))

    def test_too_many_chains(self):
        archives = layers_of(LAYERS_1000, 1)
        self.raised(archives, TooManyChains)
        # In one archive the same members have one word, and so two states.
        members = tuple(sorted(member for _, members in archives for member in members))
        self.raised((('a', members),), TooManyChains)
        self.assertEqual(shortest_line(Library((('a', members[:-1]),))), ('a',))
        self.assertEqual(state_after(Library((('a', members[:-1]),)), ('a', 'a')), (1,))
        self.assertEqual(distance(Library((('a', members[:-1]),)), (0,)), 1)

    def test_too_many_chains_come_ahead_of_too_many_states(self):
        archives = layers_of(LAYERS_CROWDED)
        self.assertGreater(len(read_chains(archives)), 1000)
        self.assertGreater(self.states(archives, 5000), 5000)
        self.raised(archives, TooManyChains)

    def test_an_invalid_line_comes_first(self):
        for archives in (layers_of(LAYERS_CROWDED), layers_of(LAYERS_1000, 1), rows_of(ROWS_5001)):
            library = Library(archives)
            names = library.names()
            for value in (None, [], list(names), ('zz',), names * 26, (names,), (names[0], names[:2]), 'a', 7, {}):
                with self.assertRaises(InvalidLine) as context:
                    state_after(library, value)
                self.assertIs(context.exception.value, value)


class ConventionsTest(unittest.TestCase):
    def test_arguments_by_name_in_any_order(self):
        library = Library(EXAMPLE)
        self.assertEqual(keyword_calls(shortest_line, library=library), [('a', 'b', 'a', 'b')])
        self.assertEqual(keyword_calls(state_after, library=library, line=('b', 'a', 'a')), [(1,)] * 2)
        self.assertEqual(keyword_calls(distance, library=library, state=(1,)), [3] * 2)
        value = [('a', 'b')]
        with self.assertRaises(InvalidLine) as context:
            state_after(line=value, library=library)
        self.assertIs(context.exception.value, value)

    def test_equal_calls_return_equal_tuples_and_change_nothing(self):
        library, line, state = Library(copy.deepcopy(RING)), ('a', 'd', 'c', 'b'), (1, 1)
        inside = repr(vars(library))
        for _ in range(3):
            results = (shortest_line(library), state_after(library, line), distance(library, state))
            self.assertTrue(same_value(results, (('a', 'b', 'd', 'a', 'b'), (2, 1), 4)))
            self.assertTrue(only_tuples(results))
            self.assertTrue(same_value((line, state), (('a', 'd', 'c', 'b'), (1, 1))))
            self.assertTrue(same_value(library.archives, RING))
            self.assertEqual(repr(vars(library)), inside)


if __name__ == '__main__':
    unittest.main()

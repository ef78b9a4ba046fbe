"""Point 12 and guarantee (f): how many lines of a length serve, and the number of each of them."""

import copy
import math
import random
import unittest

from linkorder.counting import line_at, line_count, line_number
from linkorder.errors import InvalidLine, InvalidNumber, TooManyChains, TooManyStates
from linkorder.libraries import Library
from linkorder.serving import serves
from linkorder.shortest import shortest_line
from tests.helpers import (
    EXAMPLE, LAYERS_1000, LAYERS_CROWDED, RICH, RING, ROWS_5000, ROWS_5001, any_values, buildable_programs,
    keyword_calls, layers_of, only_tuples, plain_lines, read_link, reads_as_plain_line, reads_as_serving, row_of,
    rows_of, run_examples, same_value, sample_archives, serving_lines, small_archives, variants,
)

DOCUMENT = """
>>> from linkorder.counting import line_at, line_count, line_number
>>> (line_count(library, 4), line_count(library, 5), line_at(library, 5, 0), line_number(library, ('b', 'a', 'b', 'a', 'b')))
(1, 6, ('a', 'a', 'b', 'a', 'b'), 5)
"""

EMPTY = (('a', ()), ('b', ()))


def lines_that_read(length, many):
    """Return along how many lines of a length exactly so many letters of a b a b are read, fewer than four."""
    # Each item reads the next letter or does not, so the places of those that do can be chosen freely.
    return math.comb(length, many)


class DocumentTest(unittest.TestCase):
    def test_the_example_of_the_document(self):
        self.assertEqual(run_examples(DOCUMENT, {'library': Library(EXAMPLE)}), (2, 0))


class SmallLengthsTest(unittest.TestCase):
    """All lines of small lengths, each of them tried by itself."""

    def check(self, archives, length):
        library = Library(archives)
        lines = serving_lines(archives, length)
        self.assertTrue(same_value(line_count(library, length), len(lines)))
        for number, line in enumerate(lines):
            self.assertTrue(same_value(line_at(library, length, number), line))
            self.assertTrue(same_value(line_number(library, line), number))
        for number in (-1, len(lines), len(lines) + 1):
            with self.assertRaises(InvalidNumber) as context:
                line_at(library, length, number)
            self.assertEqual(context.exception.value, number)
        return len(lines)

    def test_named_libraries(self):
        for archives in ((), EMPTY, EXAMPLE, RICH, (('a', ()),), rows_of(('a',)), rows_of(('ab', 'ba')), rows_of(('b',), 'ac')):
            for length in range(7 if len(archives) < 3 else 5):
                self.check(archives, length)

    def test_lines_that_do_not_serve_have_no_number(self):
        for archives in (EXAMPLE, RICH, RING, rows_of(('ab', 'ba')), EMPTY):
            library = Library(archives)
            for length in range(6 if len(archives) < 4 else 5):
                serving = serving_lines(archives, length)
                for line in plain_lines(archives, length):
                    expected = serving.index(line) if line in serving else None
                    self.assertTrue(same_value(line_number(library, line), expected))

    def test_samples(self):
        found = 0
        for seed in range(120):
            archives = sample_archives(seed)
            least = len(shortest_line(Library(archives)))
            for length in (least - 1, least, least + 1):
                if length >= 0 and len(archives) ** length < 800:
                    found += self.check(archives, length)
        self.assertGreater(found, 500)

    def test_lines_that_link_every_buildable_program(self):
        source = random.Random(12)
        for seed in range(25):
            archives = small_archives(seed)
            programs = buildable_programs(archives, ('s0', 's1', 's2', 's3', 'x'))
            for length in range(4):
                linking = [line for line in plain_lines(archives, length)
                           if all(read_link(archives, line, program, source)[1:] == ((), ()) for program in programs)]
                library = Library(archives)
                self.assertEqual(line_count(library, length), len(linking))
                self.assertEqual([line_at(library, length, number) for number in range(len(linking))], linking)

    def test_no_line_is_shorter_than_the_shortest_one(self):
        for seed in range(60):
            library = Library(sample_archives(seed))
            shortest = shortest_line(library)
            self.assertEqual([line_count(library, length) for length in range(len(shortest))], [0] * len(shortest))
            self.assertGreaterEqual(line_count(library, len(shortest)), 1)
            self.assertEqual(line_at(library, len(shortest), 0), shortest)
            self.assertEqual(line_number(library, shortest), 0)


class LargeNumbersTest(unittest.TestCase):
    def test_libraries_without_members(self):
        # Every line serves, so the number of a line is the line itself, read as a number.
        for names in ('a', 'ab', 'abc', 'abcdefgh'):
            library = Library(tuple((name, ()) for name in names))
            source = random.Random(len(names))
            for length in (0, 1, 2, 59, 60):
                self.assertEqual(line_count(library, length), len(names) ** length)
                for _ in range(5):
                    line = tuple(source.choice(names) for _ in range(length))
                    number = sum(names.index(name) * len(names) ** at for at, name in enumerate(line[::-1]))
                    self.assertEqual(line_number(library, line), number)
                    self.assertEqual(line_at(library, length, number), line)
            for length in (199, 200):
                self.assertEqual(line_number(library, (names[-1],) * length), len(names) ** length - 1)
                self.assertEqual(line_number(library, (names[0],) * length), 0)

    def test_a_library_without_archives(self):
        library = Library(())
        self.assertEqual([line_count(library, length) for length in (0, 1, 2, 59, 60)], [1, 0, 0, 0, 0])
        self.assertEqual(line_at(library, 0, 0), ())
        self.assertEqual(line_number(library, ()), 0)
        for length, number in ((0, 1), (0, -1), (1, 0), (60, 0)):
            with self.assertRaises(InvalidNumber) as context:
                line_at(library, length, number)
            self.assertEqual(context.exception.value, number)

    def test_one_archive_with_members(self):
        # A line serves as long as it has the one archive at all.
        for names, home in (('a', 'a'), ('ab', 'a'), ('ab', 'b'), ('abcdefgh', 'c')):
            library = Library(rows_of((home,), names))
            for length in (0, 1, 2, 30, 60):
                self.assertEqual(line_count(library, length), len(names) ** length - (len(names) - 1) ** length)

    def test_two_words(self):
        # Without ab there are length + 1 lines, without ba as many, and two of them have neither.
        library = Library(rows_of(('ab', 'ba')))
        for length in (3, 4, 10, 60):
            self.assertEqual(line_count(library, length), 2 ** length - 2 * length)

    def check_numbers(self, library, length, numbers):
        before = None
        for number in sorted(numbers):
            line = line_at(library, length, number)
            self.assertEqual(len(line), length)
            self.assertIs(serves(library, line), True)
            self.assertTrue(same_value(line_number(library, line), number))
            self.assertTrue(only_tuples(line))
            if before is not None:
                self.assertLess(before, line)
            before = line

    def test_numbers_and_lines_are_inverse_to_one_another(self):
        source = random.Random(4)
        for archives in (EXAMPLE, RICH, RING, rows_of(('abc', 'acb', 'cab')), row_of(24)):
            library = Library(archives)
            for length in (len(shortest_line(library)), 30, 60):
                count = line_count(library, length)
                self.assertGreater(count, 0)
                numbers = {0, count - 1, count // 2} | {source.randrange(count) for _ in range(6)}
                self.check_numbers(library, length, numbers)
                for number in (count, -1, count + 1, -count, count * 2 + 5):
                    with self.assertRaises(InvalidNumber) as context:
                        line_at(library, length, number)
                    self.assertEqual(context.exception.value, number)

    def test_the_number_of_a_line_is_the_number_of_serving_lines_before_it(self):
        for archives in (EXAMPLE, RING):
            library, source = Library(archives), random.Random(3)
            for _ in range(6):
                line = tuple(source.choice(library.names()) for _ in range(7 if len(archives) < 3 else 5))
                lines = serving_lines(archives, len(line))
                expected = len([other for other in lines if other < line]) if line in lines else None
                self.assertEqual(line_number(library, line), expected)

    def test_next_numbers_are_next_lines(self):
        library = Library(EXAMPLE)
        for length in (9, 10):
            lines = [line_at(library, length, number) for number in range(line_count(library, length))]
            self.assertEqual(lines, sorted(set(lines)))
            self.assertEqual(lines, serving_lines(EXAMPLE, length))

    def test_long_lines(self):
        library = Library(EXAMPLE)
        for length in (60, 61, 199, 200):
            # The last line begins with as many b as it can; the first one with as many a.
            self.assertEqual(line_number(library, ('a',) * (length - 3) + ('b', 'a', 'b')), 0)
            last = ('b',) * (length - 4) + ('a', 'b', 'a', 'b')
            # All lines but those along which fewer than four letters are read, one of them after another.
            unread = sum(lines_that_read(length, many) for many in range(4))
            self.assertEqual(line_number(library, last), 2 ** length - unread - 1)
            self.assertIsNone(line_number(library, ('a',) * length))

    def test_lengths_somewhat_beyond_the_limit(self):
        library = Library(EXAMPLE)
        for length in (61, 70):
            unread = sum(lines_that_read(length, many) for many in range(4))
            self.assertEqual(line_count(library, length), 2 ** length - unread)
            self.assertEqual(line_at(library, length, 0), ('a',) * (length - 3) + ('b', 'a', 'b'))
        # What is returned below 0 is not said, but it is no error.
        for length in (-1, -2):
            self.assertIs(type(line_count(library, length)), int)


class NumbersTest(unittest.TestCase):
    """Which values are numbers of lines."""

    def check(self, archives, length, value):
        library = Library(archives)
        before = copy.deepcopy(value)
        lines = serving_lines(archives, length)
        if type(value) is int and 0 <= value < len(lines):
            self.assertTrue(same_value(line_at(library, length, value), lines[value]))
        else:
            with self.assertRaises(InvalidNumber) as context:
                line_at(library, length, value)
            self.assertIs(type(context.exception), InvalidNumber)
            self.assertIs(context.exception.value, value)
        self.assertTrue(same_value(value, before))

    def test_any_value(self):
        for archives, length in ((EXAMPLE, 3), (EXAMPLE, 4), (EXAMPLE, 6), (EMPTY, 0), (EMPTY, 3), ((), 0), ((), 1), (RING, 5)):
            for value in any_values():
                self.check(archives, length, value)

    def test_booleans_are_not_numbers(self):
        for value in (True, False, (0,), [0], '0', 0, 1, 2):
            self.check(EMPTY, 2, value)

    def test_numbers_from_below_the_first_to_above_the_last(self):
        for length in range(7):
            for number in range(-3, len(serving_lines(EXAMPLE, length)) + 3):
                self.check(EXAMPLE, length, number)

    def test_numbers_of_any_size(self):
        library = Library(tuple((name, ()) for name in 'abcdefgh'))
        count = line_count(library, 60)
        self.assertGreater(count, 10 ** 30)
        self.assertEqual(line_at(library, 60, count - 1), ('h',) * 60)
        for number in (count, -1, -count, count + 10 ** 30):
            with self.assertRaises(InvalidNumber) as context:
                line_at(library, 60, number)
            self.assertEqual(context.exception.value, number)


class LinesTest(unittest.TestCase):
    """Which values are lines without groups."""

    def check(self, archives, value):
        library = Library(archives)
        before = copy.deepcopy(value)
        valid = reads_as_plain_line(archives, value)
        if valid:
            self.assertIs(line_number(library, value) is not None, reads_as_serving(archives, value))
        else:
            with self.assertRaises(InvalidLine) as context:
                line_number(library, value)
            self.assertIs(type(context.exception), InvalidLine)
            self.assertIs(context.exception.value, value)
        self.assertTrue(same_value(value, before))
        return valid

    def test_any_value(self):
        for archives in ((), EMPTY, EXAMPLE, (('a', ()), ('archive', ())), RING):
            for value in any_values():
                self.check(archives, value)
                self.check(archives, (value,))

    def test_any_value_at_every_depth(self):
        accepted = 0
        for line in (('a', 'b', 'a', 'b'), ('a', ('a', 'b')), ()):
            for value in variants(line):
                accepted += self.check(EXAMPLE, value)
        self.assertGreater(accepted, 10)

    def test_number_of_items(self):
        for count in (0, 1, 4, 199, 200, 201, 202):
            for archives in (EXAMPLE, EMPTY):
                self.assertIs(self.check(archives, (('a', 'b') * count)[:count]), count <= 200)

    def test_groups_are_refused(self):
        for line in ((('a', 'b'),), ('a', ('a', 'b')), ('a', 'b', 'a', 'b', ('a', 'b')), ('a',) * 199 + (('a', 'b'),)):
            self.assertIs(self.check(EXAMPLE, line), False)


class SearchErrorsTest(unittest.TestCase):
    def raised(self, archives, kind):
        """Check that every function raises this error for valid arguments and for invalid numbers."""
        library = Library(archives)
        names = library.names()
        calls = [(line_count, (length,)) for length in (0, 1, 60)]
        calls += [(line_number, (line,)) for line in ((), names, names * 25)]
        calls += [(line_at, (length, number)) for length in (0, 1, 60) for number in (0, 1, -1, None, True, [], 10 ** 30, 'a')]
        for function, arguments in calls:
            with self.assertRaises(kind) as context:
                function(library, *arguments)
            self.assertIs(type(context.exception), kind)

    def test_five_thousand_states(self):
        library = Library(rows_of(ROWS_5000))
        shortest = shortest_line(library)
        self.assertEqual(line_count(library, len(shortest) - 1), 0)
        count = line_count(library, len(shortest))
        self.assertGreater(count, 1)
        self.assertEqual(line_at(library, len(shortest), 0), shortest)
        last = line_at(library, len(shortest), count - 1)
        self.assertIs(serves(library, last), True)
        self.assertEqual(line_number(library, last), count - 1)

    def test_more_than_five_thousand_states(self):
        self.raised(rows_of(ROWS_5001), TooManyStates)

    def test_a_thousand_chains(self):
        archives = layers_of(LAYERS_1000)
        members = tuple(sorted(member for _, members in archives for member in members))
        library = Library((('a', members), ('b', ())))
        self.assertEqual([line_count(library, length) for length in range(4)], [0, 1, 3, 7])
        self.assertEqual(line_at(library, 2, 2), ('b', 'a'))
        self.assertEqual(line_number(library, ('b', 'a')), 2)

    def test_more_than_a_thousand_chains(self):
        archives = layers_of(LAYERS_1000, 1)
        members = tuple(sorted(member for _, members in archives for member in members))
        for library in (archives, layers_of(LAYERS_CROWDED), (('a', members), ('b', ()))):
            self.raised(library, TooManyChains)

    def test_an_invalid_line_comes_ahead_of_the_search_errors(self):
        for archives in (layers_of(LAYERS_CROWDED), layers_of(LAYERS_1000, 1), rows_of(ROWS_5001)):
            library = Library(archives)
            names = library.names()
            for value in (None, [], list(names), ('zz',), names * 26, (names,), (names[0], names[:2]), 'a', 7, {}):
                with self.assertRaises(InvalidLine) as context:
                    line_number(library, value)
                self.assertIs(context.exception.value, value)


class ConventionsTest(unittest.TestCase):
    def test_arguments_by_name_in_any_order(self):
        library = Library(EXAMPLE)
        self.assertEqual(keyword_calls(line_count, library=library, length=5), [6] * 2)
        self.assertEqual(keyword_calls(line_at, library=library, length=5, number=0), [('a', 'a', 'b', 'a', 'b')] * 6)
        self.assertEqual(keyword_calls(line_number, library=library, line=('b', 'a', 'b', 'a', 'b')), [5] * 2)
        value = [0]
        with self.assertRaises(InvalidNumber) as context:
            line_at(number=value, length=5, library=library)
        self.assertIs(context.exception.value, value)
        with self.assertRaises(InvalidLine) as context:
            line_number(line=value, library=library)
        self.assertIs(context.exception.value, value)

    def test_equal_calls_return_equal_tuples_and_change_nothing(self):
        library, line = Library(copy.deepcopy(RING)), tuple('abdab')
        inside = repr(vars(library))
        for _ in range(3):
            results = (line_count(library, 5), line_at(library, 5, 0), line_number(library, line))
            self.assertTrue(same_value(results, (len(serving_lines(RING, 5)), tuple('abdab'), 0)))
            self.assertTrue(only_tuples(results))
            self.assertTrue(same_value(line, tuple('abdab')))
            self.assertEqual(repr(vars(library)), inside)


if __name__ == '__main__':
    unittest.main()

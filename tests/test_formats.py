"""Point 15 and guarantee (h): libraries, lines and programs as text, and the way back."""

import copy
import random
import unittest

from linkorder.errors import ParseError
from linkorder.formats import format_library, format_line, format_program, parse_library, parse_line, parse_program
from linkorder.libraries import Library
from tests.helpers import (
    EXAMPLE, RICH, RIGHT_NAMES, RING, WRONG_NAMES, any_values, changed_texts, every_line, keyword_calls, layers_of,
    only_tuples, read_library_text, read_line_text, read_program_text, row_of, run_examples, same_value,
    sample_archives, sample_programs, some_lines, symbols_of,
)

DOCUMENT = """
>>> from linkorder.formats import format_line, format_program, parse_line
>>> (format_line(('a', ('a', 'b'))), parse_line('a (a b)'), format_program(((), ('g',))))
('a (a b)', ('a', ('a', 'b')), 'defines -\\nneeds g')
"""

TEXT = 'archive a\nmember cee\ndefines p\nneeds q\nmember one\ndefines f\nneeds g\narchive b\nmember dee\ndefines q\nmember two\ndefines g\nneeds p'
SIGNS = (' ', '\n', '-', '(', ')', 'a', 'z', '9', 'A', '/', '\t', '\r', '.', '\u00e4', '\u2028', '\x0b', '\x00')


def parsed_archives(text):
    return parse_library(text).archives


class Base(unittest.TestCase):
    def row_of_error(self, parse, value):
        before = copy.deepcopy(value)
        with self.assertRaises(ParseError) as context:
            parse(value)
        self.assertIs(type(context.exception), ParseError)
        self.assertIs(type(context.exception.row), int)
        self.assertTrue(same_value(value, before))
        return context.exception.row

    def check(self, parse, reading, value):
        """Check a parser beside the second reading; return whether it accepted the value."""
        expected = reading(value)
        if type(expected) is int:
            self.assertEqual(self.row_of_error(parse, value), expected, value)
            return False
        self.assertTrue(same_value(parse(value), expected), value)
        return True


class DocumentTest(Base):
    def test_the_example_of_the_document(self):
        self.assertEqual(run_examples(DOCUMENT, {}), (2, 0))


class AnyValueTest(Base):
    def test_what_is_not_a_string(self):
        for value in any_values():
            if type(value) is not str:
                for parse in (parse_library, parse_line, parse_program):
                    self.assertEqual(self.row_of_error(parse, value), 0)
        for value in ((TEXT,), [TEXT], {TEXT: TEXT}, [], (), 0, False, None):
            for parse in (parse_library, parse_line, parse_program):
                self.assertEqual(self.row_of_error(parse, value), 0)

    def test_any_string(self):
        for value in any_values():
            self.check(parsed_archives, read_library_text, value)
            self.check(parse_line, read_line_text, value)
            self.check(parse_program, read_program_text, value)

    def test_the_empty_string(self):
        self.assertEqual(parse_library(''), Library(()))
        self.assertEqual(self.row_of_error(parse_line, ''), 0)
        self.assertEqual(self.row_of_error(parse_program, ''), 0)

    def test_line_feeds_alone(self):
        for parse in (parse_library, parse_line, parse_program):
            for text in ('\n', '\n\n', ' ', ' \n', '\n '):
                self.assertEqual(self.row_of_error(parse, text), 0)


class LibraryTest(Base):
    def parsed(self, text, archives):
        self.assertEqual(read_library_text(text), archives)
        library = parse_library(text)
        self.assertIsInstance(library, Library)
        self.assertTrue(same_value(library.archives, archives))
        self.assertTrue(same_value(format_library(library), text))

    def refused(self, text, row):
        self.assertEqual(read_library_text(text), row)
        self.assertEqual(self.row_of_error(parse_library, text), row)

    def test_texts(self):
        self.parsed(TEXT, EXAMPLE)
        self.parsed('', ())
        self.parsed('archive a', (('a', ()),))
        self.parsed('archive a\narchive b', (('a', ()), ('b', ())))
        self.parsed('archive a\nmember m\ndefines s', (('a', (('m', ('s',), ()),)),))
        self.parsed('archive a\nmember m\ndefines s t\nneeds s u v', (('a', (('m', ('s', 't'), ('s', 'u', 'v')),)),))
        self.parsed('archive a\nmember m\ndefines s\nmember n\ndefines t\nneeds s\narchive b',
                    (('a', (('m', ('s',), ()), ('n', ('t',), ('s',)))), ('b', ())))

    def test_names_that_are_words_of_the_format(self):
        self.parsed('archive archive\nmember member\ndefines defines needs\nneeds archive member',
                    (('archive', (('member', ('defines', 'needs'), ('archive', 'member')),)),))

    def test_what_was_formatted(self):
        for archives in (EXAMPLE, RICH, RING, row_of(24), layers_of((3, 3, 3))) + tuple(sample_archives(at) for at in range(150)):
            text = format_library(Library(archives))
            self.assertIsInstance(text, str)
            self.assertEqual(parse_library(text), Library(archives))
            self.parsed(text, archives)

    def test_the_first_row_without_a_form(self):
        good = TEXT.split('\n')
        for bad in ('', ' ', 'archive', 'archive ', 'archive A', 'archive a b', 'archive  a', ' archive a', 'archive a ',
                    'Archive a', 'archives a', 'member', 'member a b', 'member m-', 'member -', 'defines', 'defines ',
                    'defines -', 'defines a  b', 'defines a b ', 'defines a,b', 'needs', 'needs -', 'needs  a', 'needs a B',
                    'a', '-', 'archive\ta', 'archive abcdefghi', 'defines a abcdefghi', 'symbol a', 'defines (a)', 'archivea'):
            if bad:
                self.refused(bad, 0)
            for at in range(len(good) + 1):
                self.refused('\n'.join(good[:at] + [bad] + good[at:]), at)
            self.refused('\n'.join(['needs a', bad, bad]), 1)
            self.refused('\n'.join(good[::-1] + [bad]), len(good))

    def test_rows_that_have_a_form_in_a_wrong_order(self):
        for text in ('member m', 'defines s', 'needs s', 'member m\ndefines s', 'archive a\ndefines s', 'archive a\nneeds s',
                     'archive a\nmember m', 'archive a\nmember m\nneeds s', 'archive a\nmember m\nneeds t\ndefines s',
                     'archive a\nmember m\ndefines s\ndefines t', 'archive a\nmember m\ndefines s\nneeds t\nneeds u',
                     'archive a\nmember m\nmember n\ndefines s', 'archive a\nmember m\narchive b\ndefines s',
                     'defines s\narchive a', 'member m\ndefines s\narchive a', 'archive a\nmember m\ndefines s\narchive b\nneeds t',
                     'archive a\ndefines s\nmember m', 'archive a\nmember m\ndefines s\nneeds t\ndefines u'):
            self.refused(text, len(text.split('\n')))

    def test_names_out_of_order_or_equal(self):
        member = 'member m\ndefines s'
        for text in ('archive b\narchive a', 'archive a\narchive a', f'archive a\n{member}\n{member}',
                     'archive a\nmember n\ndefines s\nmember m\ndefines t', 'archive a\nmember m\ndefines t s',
                     'archive a\nmember m\ndefines s s', f'archive a\n{member}\nneeds v u', f'archive a\n{member}\nneeds u u',
                     f'archive a\n{member}\narchive b\n{member}', 'archive a\nmember m\ndefines s\narchive b\nmember n\ndefines s',
                     f'archive a\n{member}\nmember m\ndefines t', f'archive a\n{member}\narchive b\nmember m\ndefines t'):
            self.refused(text, len(text.split('\n')))

    def test_bounds(self):
        for count in (8, 9):
            text = '\n'.join(f'archive a{at}' for at in range(count))
            (self.parsed(text, tuple((f'a{at}', ()) for at in range(count))) if count == 8 else self.refused(text, count))
        for count in (24, 25):
            text = '\n'.join(['archive a'] + [f'member m{at:02}\ndefines s{at:02}' for at in range(count)])
            self.assertIs(self.check(parsed_archives, read_library_text, text), count == 24)
        for defines, needs in ((6, 8), (7, 8), (6, 9), (1, 1), (200, 1), (1, 200)):
            text = f'archive a\nmember m\ndefines {" ".join(symbols_of(defines))}\nneeds {" ".join(symbols_of(needs))}'
            if (defines, needs) in ((6, 8), (1, 1)):
                self.parsed(text, (('a', (('m', symbols_of(defines), symbols_of(needs)),)),))
            else:
                self.refused(text, 4)

    def test_line_feeds(self):
        self.refused('archive a\n', 1)
        self.refused('\narchive a', 0)
        self.refused('archive a\n\narchive b', 1)
        self.refused(TEXT + '\n', 13)
        self.refused(TEXT.replace('\n', '\r\n'), 0)
        self.refused(TEXT.replace('\n', '\r'), 0)

    def test_one_sign_changed(self):
        small = 'archive a\nmember m\ndefines s t\nneeds s u\narchive b'
        accepted = 0
        for text in (TEXT, small, format_library(Library(RICH))):
            for changed in changed_texts(text, SIGNS):
                accepted += self.check(parsed_archives, read_library_text, changed)
        self.assertGreater(accepted, 300)

    def test_one_row_changed(self):
        accepted = 0
        rows = TEXT.split('\n') + ['archive 0', 'archive c', 'member zz', 'defines a b', 'needs a z', 'needs b a']
        for at in range(13):
            for row in rows:
                good = TEXT.split('\n')
                for text in (good[:at] + [row] + good[at:], good[:at] + [row] + good[at + 1:], good[:at] + good[at + 1:]):
                    accepted += self.check(parsed_archives, read_library_text, '\n'.join(text))
        self.assertGreater(accepted, 50)

    def test_random_rows(self):
        source, accepted = random.Random(15), 0
        rows = ['archive a', 'archive b', 'member m', 'member n', 'defines s', 'defines t u', 'needs s', 'needs v w', 'needs -']
        for _ in range(4000):
            text = '\n'.join(source.choice(rows) for _ in range(source.randint(1, 6)))
            accepted += self.check(parsed_archives, read_library_text, text)
        self.assertGreater(accepted, 50)


class LineTest(Base):
    def parsed(self, text, line):
        self.assertEqual(read_line_text(text), line)
        self.assertTrue(same_value(parse_line(text), line))
        self.assertTrue(same_value(format_line(line), text))
        self.assertTrue(only_tuples(parse_line(text)))

    def refused(self, text, row):
        self.assertEqual(read_line_text(text), row)
        self.assertEqual(self.row_of_error(parse_line, text), row)

    def test_texts(self):
        for text, line in (('-', ()), ('a', ('a',)), ('a b', ('a', 'b')), ('b a b a', tuple('baba')), ('(a b)', (('a', 'b'),)),
                           ('a (a b)', ('a', ('a', 'b'))), ('(a b) a', (('a', 'b'), 'a')), ('(a b) (a c)', (('a', 'b'), ('a', 'c'))),
                           ('zzzzzzzz 0 (00 1 a9)', ('zzzzzzzz', '0', ('00', '1', 'a9'))), ('(a b) b (c d e) d', (('a', 'b'), 'b', ('c', 'd', 'e'), 'd'))):
            self.parsed(text, line)

    def test_names_of_no_library(self):
        many = tuple(f'x{at:03}' for at in range(200))
        self.parsed(' '.join(many), many)
        self.parsed(f'({" ".join(many)})', (many,))
        for name in RIGHT_NAMES:
            self.parsed(name, (name,))

    def test_what_was_formatted(self):
        for archives in (EXAMPLE, RING[:2] + RING[3:]):
            for line in every_line(archives, 3):
                self.parsed(format_line(line), line)
        for seed in range(100):
            for line in some_lines(random.Random(seed), sample_archives(seed), 4):
                self.parsed(format_line(line), line)

    def test_rows_without_a_form(self):
        for text in ('', ' ', 'a ', ' a', 'a  b', '--', '- ', ' -', '- a', 'a -', '()', '( )', '(', ')', '(a', 'a)', '(a b', 'a b)',
                     '( a b)', '(a b )', '(a  b)', '(a b)(a b)', 'a(a b)', '(a b)a', '((a b))', '((a) b)', '(a (b c))', '(a b) c)',
                     '(a b) (c', '(-)', '(a -)', 'a,b', 'A', 'a B', '(A b)', 'abcdefghi', '(a abcdefghi)', 'a\tb', '(a\tb)', 'a () b',
                     '[a b]', "a'", 'a\r', '(a) b)', ')a(', '(a)(b)', '(a))', '((a)'):
            self.refused(text, 0)
            self.refused('a\n' + text, 1)
            self.refused(text + '\na', 0)
            self.refused('-\na b\n' + text + '\n' + text, 2)
        for name in WRONG_NAMES:
            # These two are no names, but the text of a line.
            if name not in ('-', 'a b'):
                self.assertFalse(self.check(parse_line, read_line_text, name))
                self.assertFalse(self.check(parse_line, read_line_text, f'(a {name})'))
                self.assertFalse(self.check(parse_line, read_line_text, f'a {name}'))

    def test_groups_that_are_not_in_order(self):
        for text in ('(a)', '(b a)', '(a a)', '(a b b)', '(a c b)', 'a (b)', '(a b) (b a)', '(a b) (a)', '(a b a)', '(zz) a'):
            self.refused(text, 1)

    def test_more_than_one_row(self):
        for text in ('a\nb', '-\n-', 'a\n-', '(a b)\n(a b)', '(a)\na'):
            self.refused(text, 2)
        self.refused('a\nb\nc', 3)
        self.refused('a\n', 1)
        self.refused('\na', 0)
        self.refused('a\n\nb', 1)

    def test_number_of_items(self):
        for count in (199, 200, 201, 202):
            for item, text in (('a', 'a'), (('a', 'b'), '(a b)')):
                line = (item,) * count
                if count <= 200:
                    self.parsed(' '.join([text] * count), line)
                else:
                    self.refused(' '.join([text] * count), 1)
                # A repaired line may be as long as this, and can still be written.
                self.assertEqual(format_line(line), ' '.join([text] * count))

    def test_one_sign_changed(self):
        accepted = 0
        for text in ('a b', '-', '(a b) c (b d) a', 'abc (x yy zzz)'):
            for changed in changed_texts(text, SIGNS):
                accepted += self.check(parse_line, read_line_text, changed)
        self.assertGreater(accepted, 100)

    def test_random_signs(self):
        source, accepted = random.Random(16), 0
        for _ in range(20000):
            text = ''.join(source.choice('ab ()-' if source.random() < 0.9 else '\n') for _ in range(source.randint(0, 7)))
            accepted += self.check(parse_line, read_line_text, text)
        self.assertGreater(accepted, 300)


class ProgramTest(Base):
    def parsed(self, text, program):
        self.assertEqual(read_program_text(text), program)
        self.assertTrue(same_value(parse_program(text), program))
        self.assertTrue(same_value(format_program(program), text))
        self.assertTrue(only_tuples(parse_program(text)))

    def refused(self, text, row):
        self.assertEqual(read_program_text(text), row)
        self.assertEqual(self.row_of_error(parse_program, text), row)

    def test_texts(self):
        self.parsed('defines -\nneeds -', ((), ()))
        self.parsed('defines -\nneeds g', ((), ('g',)))
        self.parsed('defines p\nneeds -', (('p',), ()))
        self.parsed('defines a b\nneeds a b c', (('a', 'b'), ('a', 'b', 'c')))
        self.parsed('defines defines\nneeds needs', (('defines',), ('needs',)))

    def test_what_was_formatted(self):
        for seed in range(100):
            for program in sample_programs(seed):
                self.parsed(format_program(program), program)

    def test_rows_without_a_form(self):
        for bad in ('', ' ', 'defines', 'defines ', 'needs', 'needs  -', 'needs - ', 'defines - -', 'defines - a', 'defines a -',
                    'defines --', 'Defines a', 'archive a', 'member a', 'defines  a', ' defines a', 'defines a ', 'needs A',
                    'defines abcdefghi', 'need a', '-', 'defines\ta', 'defines a, b', 'definesa'):
            self.refused(bad, 0)
            self.refused(bad + '\nneeds a', 0)
            self.refused('defines a\n' + bad, 1)
            self.refused('defines a\nneeds a\n' + bad, 2)
            self.refused('needs b a\nneeds a\n' + bad + '\n' + bad, 2)

    def test_rows_in_a_wrong_order_or_number(self):
        for text in ('defines a', 'needs a', 'defines -', 'needs -', 'needs a\ndefines a', 'defines a\ndefines a', 'needs -\nneeds -',
                     'needs -\ndefines -', 'defines -\nneeds -\nneeds -', 'defines a\nneeds a\ndefines b', 'defines a\ndefines b\nneeds c',
                     'defines a\nneeds b\nneeds c', 'defines -\ndefines a\nneeds a', 'defines a\ndefines -\nneeds a'):
            self.refused(text, len(text.split('\n')))

    def test_symbols_out_of_order_or_equal(self):
        for text in ('defines b a\nneeds -', 'defines a a\nneeds -', 'defines -\nneeds b a', 'defines -\nneeds a a', 'defines a b a\nneeds c'):
            self.refused(text, 2)

    def test_number_of_symbols(self):
        for count in (199, 200, 201):
            names = ' '.join(symbols_of(count))
            for text, program in ((f'defines {names}\nneeds -', (symbols_of(count), ())), (f'defines -\nneeds {names}', ((), symbols_of(count))),
                                  (f'defines {names}\nneeds {names}', (symbols_of(count),) * 2)):
                self.parsed(text, program) if count <= 200 else self.refused(text, 2)

    def test_line_feeds(self):
        self.refused('defines a\nneeds b\n', 2)
        self.refused('\ndefines a\nneeds b', 0)
        self.refused('defines a\n\nneeds b', 1)
        self.refused('defines a\r\nneeds b', 0)

    def test_one_sign_changed(self):
        accepted = 0
        for text in ('defines a c\nneeds b', 'defines -\nneeds -', 'defines -\nneeds x y9'):
            for changed in changed_texts(text, SIGNS):
                accepted += self.check(parse_program, read_program_text, changed)
        self.assertGreater(accepted, 50)


class ConventionsTest(Base):
    def test_arguments_by_name(self):
        library, line, program = Library(EXAMPLE), ('a', ('a', 'b')), ((), ('g',))
        self.assertEqual(keyword_calls(format_library, library=library), [TEXT])
        self.assertEqual(keyword_calls(format_line, line=line), ['a (a b)'])
        self.assertEqual(keyword_calls(format_program, program=program), ['defines -\nneeds g'])
        self.assertEqual(keyword_calls(parse_library, text=TEXT), [library])
        self.assertEqual(keyword_calls(parse_line, text='a (a b)'), [line])
        self.assertEqual(keyword_calls(parse_program, text='defines -\nneeds g'), [program])
        for parse in (parse_library, parse_line, parse_program):
            with self.assertRaises(ParseError) as context:
                parse(text=['a'])
            self.assertEqual(context.exception.row, 0)

    def test_equal_calls_return_equal_results_and_change_nothing(self):
        library, line, program = Library(copy.deepcopy(RICH)), ('a1', ('a1', 'c3')), (('x',), ('s1', 's2'))
        inside = repr(vars(library))
        for _ in range(3):
            self.assertEqual(parse_library(format_library(library)).archives, RICH)
            self.assertEqual(parse_line(format_line(line)), ('a1', ('a1', 'c3')))
            self.assertEqual(parse_program(format_program(program)), (('x',), ('s1', 's2')))
            self.assertEqual(repr(vars(library)), inside)


if __name__ == '__main__':
    unittest.main()

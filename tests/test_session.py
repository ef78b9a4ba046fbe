"""Point 16: sessions, the form of each command, its answer, and the history."""

import copy
import random
import re
import unittest

from linkorder.chains import words
from linkorder.counting import line_count
from linkorder.errors import (
    CommandError, DoesNotServe, InvalidLibrary, InvalidLine, LinkError, NothingToUndo, ParseError, TooManyChains,
    TooManyStates, UnknownName,
)
from linkorder.formats import format_library, format_line, format_program
from linkorder.libraries import Library
from linkorder.repairs import grouped_line
from linkorder.serving import failing_program, serves
from linkorder.session import Session
from linkorder.shortest import shortest_line
from linkorder.workspace import Workspace
from tests.helpers import (
    EXAMPLE, LAYERS_1000, LAYERS_CROWDED, NAME, RICH, RING, ROWS_5001, WRONG_NAMES, any_values, changed_texts,
    keyword_calls, layers_of, only_tuples, read_library_text, read_line_text, rows_of, run_examples, same_value,
    sample_archives, some_lines,
)

DOCUMENT = """
>>> from linkorder.session import Session
>>> session = Session('archive a\\nmember one\\ndefines f\\nneeds g\\narchive b\\nmember two\\ndefines g')
>>> (session.run('shortest'), session.run('fails b a'), session.run('count 3'))
('a b', 'defines - / needs f', '4')
"""

EMPTY = (('a', ()), ('b', ()))
SIMPLE = ('shortest', 'groups', 'line', 'repair', 'prune', 'undo', 'words', 'text')
WITH_LINE = ('serves', 'fails', 'use')
COMMANDS = SIMPLE + tuple(f'{word} {line}' for word in WITH_LINE for line in ('-', 'a', 'a b a b', '(a b)', 'b (a b) a')) + (
    'count 0', 'count 7', 'count 60', 'need one p', 'unneed one g', 'drop two')


def session_of(archives):
    return Session(format_library(Library(archives)))


def reads_as_command(value):
    """Tell whether a value is a command by its form."""
    if type(value) is not str:
        return False
    if value in SIMPLE or re.fullmatch(f'(need|unneed) {NAME} {NAME}|drop {NAME}', value):
        return True
    if re.fullmatch('count (0|[1-9][0-9]?)', value, re.ASCII):
        return int(value.split()[1]) <= 60
    word, gap, rest = value.partition(' ')
    return word in WITH_LINE and gap == ' ' and type(read_line_text(rest)) is not int


def read_answer(desk, command):
    """Return the answer to a command on a workspace, or raise what the functions and the workspace raise."""
    word, _, rest = command.partition(' ')
    library = desk.library()
    if word in ('repair', 'prune'):
        return str(getattr(desk, word)())
    if word in ('use', 'need', 'unneed', 'drop', 'undo'):
        edit = {'use': desk.set_line, 'need': desk.add_need, 'unneed': desk.remove_need, 'drop': desk.remove_member,
                'undo': desk.undo}[word]
        edit(*([read_line_text(rest)] if word == 'use' else rest.split()))
        return 'ok'
    if word == 'serves':
        return {True: 'yes', False: 'no'}[serves(library, read_line_text(rest))]
    if word == 'fails':
        program = failing_program(library, read_line_text(rest))
        return 'none' if program is None else ' / '.join(format_program(program).split('\n'))
    if word == 'count':
        return str(line_count(library, int(rest)))
    if word == 'words':
        return ' '.join('-'.join(letters) for letters in words(library)) if words(library) else 'none'
    if word == 'text':
        return ' / '.join(format_library(library).split('\n')) if library.archives else 'none'
    return format_line({'shortest': shortest_line, 'groups': grouped_line, 'line': lambda library: desk.line()}[word](library))


class Base(unittest.TestCase):
    def refused(self, session, command, kind, value=None):
        """Check that a command raises this error, and that the history tells of it if the command is a string."""
        history = session.history()
        before = copy.deepcopy(command)
        with self.assertRaises(LinkError) as context:
            session.run(command)
        self.assertIs(type(context.exception), kind, command)
        if kind is CommandError:
            self.assertIs(context.exception.command, command)
        elif value is not None:
            self.assertTrue(same_value(context.exception.value, value))
        self.assertTrue(same_value(command, before))
        added = ((command, False),) if type(command) is str else ()
        self.assertTrue(same_value(session.history(), history + added))

    def answers(self, archives, **answers):
        session = session_of(archives)
        for command, answer in answers.items():
            self.assertTrue(same_value(session.run(command.replace('_', ' ')), answer), command)


class DocumentTest(Base):
    def test_the_example_of_the_document(self):
        self.assertEqual(run_examples(DOCUMENT, {}), (3, 0))


class NewSessionTest(Base):
    def test_any_value(self):
        for value in any_values() + ['archive a', 'archive b\narchive a', 'archive a\n', 'member m', '-', 'defines -\nneeds -']:
            expected = read_library_text(value)
            before = copy.deepcopy(value)
            if type(expected) is int:
                with self.assertRaises(ParseError) as context:
                    Session(value)
                self.assertIs(type(context.exception), ParseError)
                self.assertEqual(context.exception.row, expected)
            else:
                session = Session(value)
                self.assertEqual(session.history(), ())
                self.assertEqual(session.run('text'), value.replace('\n', ' / ') or 'none')
                self.assertEqual(session.run('line'), '-')
            self.assertTrue(same_value(value, before))

    def test_two_sessions_have_nothing_in_common(self):
        one, other = session_of(EXAMPLE), session_of(EXAMPLE)
        one.run('use a b')
        self.assertEqual(other.history(), ())
        self.assertEqual(other.run('line'), '-')
        self.refused(other, 'undo', NothingToUndo)


class AnswersTest(Base):
    def test_queries(self):
        self.answers(EXAMPLE, shortest='a b a b', groups='(a b)', line='-', words='a-b-a-b',
                     text='archive a / member cee / defines p / needs q / member one / defines f / needs g / archive b'
                          ' / member dee / defines q / member two / defines g / needs p',
                     serves_a='no', count_0='0', count_4='1', count_5='6')
        self.answers(rows_of(('cb', 'a', 'ded')), shortest='a c b d e d', groups='a c b (d e)', words='a c-b d-e-d')

    def test_libraries_without_members(self):
        for archives, text in (((), 'none'), (EMPTY, 'archive a / archive b')):
            self.answers(archives, shortest='-', groups='-', line='-', words='none', text=text, count_0='1', repair='0',
                         prune='0', undo='ok')
            session = session_of(archives)
            self.assertEqual((session.run('serves -'), session.run('fails -'), session.run('use -')), ('yes', 'none', 'ok'))
            self.assertEqual(session.run('count 60'), str(len(archives) ** 60))

    def test_lines(self):
        session = session_of(EXAMPLE)
        for line, answer in (('-', 'no'), ('a b a', 'no'), ('a b a b', 'yes'), ('(a b)', 'yes'), ('a (a b)', 'yes'), ('b a', 'no')):
            self.assertEqual(session.run(f'serves {line}'), answer)
        for line, answer in (('-', 'defines q / needs p'), ('a b a', 'defines - / needs g'), ('a b a b', 'none'),
                             ('(a b)', 'none'), ('b', 'defines q / needs p'), ('a b', 'defines q / needs g')):
            self.assertEqual(session.run(f'fails {line}'), answer)

    def test_edits(self):
        session = session_of(EXAMPLE)
        for command, answer in (('use b b a', 'ok'), ('line', 'b b a'), ('repair', '2'), ('line', 'a b a b a'), ('prune', '1'),
                                ('line', 'a b a b'), ('need one p', 'ok'), ('prune', '1'), ('line', 'b a b'), ('unneed one g', 'ok'),
                                ('drop dee', 'ok'), ('words', 'b-a'), ('text', 'archive a / member cee / defines p / needs q'
                                 ' / member one / defines f / needs p / archive b / member two / defines g / needs p')):
            self.assertEqual(session.run(command), answer, command)
        for line in ('b a b', 'b a b', 'a b a b', 'a b a b', 'a b a b a', 'b b a', '-'):
            self.assertEqual(session.run('undo'), 'ok')
            self.assertEqual(session.run('line'), line)
        self.refused(session, 'undo', NothingToUndo)
        self.assertEqual(session.run('use (a b) a'), 'ok')
        self.assertEqual(session.run('line'), '(a b) a')

    def test_needs_without_effect_can_be_undone(self):
        session = session_of(EXAMPLE)
        self.assertEqual([session.run('need one g'), session.run('unneed one zz')], ['ok', 'ok'])
        self.assertEqual([session.run('undo'), session.run('undo')], ['ok', 'ok'])
        self.refused(session, 'undo', NothingToUndo)

    def test_names_that_are_commands(self):
        session = Session('archive line\nmember text\ndefines undo\narchive words\nmember need\ndefines drop\nneeds undo')
        self.assertEqual(session.run('shortest'), 'words line')
        self.assertEqual(session.run('use line words line'), 'ok')
        self.assertEqual(session.run('need text text'), 'ok')
        self.assertEqual(session.run('drop need'), 'ok')
        self.assertEqual(session.run('words'), 'line')

    def test_counts(self):
        session = session_of(EXAMPLE)
        for length in range(61):
            self.assertEqual(session.run(f'count {length}'), str(line_count(Library(EXAMPLE), length)))


class FormsTest(Base):
    def check(self, archives, command):
        """Run a command on a new session; its form decides whether there is a CommandError."""
        session = session_of(archives)
        if not reads_as_command(command):
            self.refused(session, command, CommandError)
            return False
        desk = Workspace(archives)
        try:
            answer = read_answer(desk, command)
        except LinkError as error:
            self.refused(session, command, type(error), getattr(error, 'value', None))
        else:
            self.assertTrue(same_value(session.run(command), answer), command)
            self.assertEqual(session.history(), ((command, True),))
        return True

    def test_any_value(self):
        for value in any_values():
            self.assertFalse(self.check(EXAMPLE, value))

    def test_right_commands(self):
        for archives in ((), EMPTY, EXAMPLE, RICH, RING):
            for command in COMMANDS:
                self.assertTrue(self.check(archives, command))

    def test_numbers(self):
        for number in range(101):
            self.assertIs(self.check(EXAMPLE, f'count {number}'), number <= 60)
        for text in ('00', '07', '060', '001', '-1', '+1', '1.0', '1e1', '', ' ', 'a', 'x1', '1 2', '0 ', ' 0', '6_0', '0x1',
                     '\u0663', '\u00b2', '\uff11', '1\n', '1000', '-0', '61', '99'):
            self.assertFalse(self.check(EXAMPLE, f'count {text}'))

    def test_words_in_the_wrong_number(self):
        for command in ('', ' ', 'shortest ', ' shortest', 'shortest a', 'shortest  ', 'groups -', 'line a', 'repair a', 'prune 1',
                        'undo 1', 'words a', 'text a', 'serves', 'serves ', 'fails', 'fails ', 'use', 'use ', 'count', 'count ',
                        'need', 'need one', 'need one ', 'need one p q', 'need  one p', 'need one  p', 'need one p ', ' need one p',
                        'unneed one', 'unneed one g g', 'drop', 'drop ', 'drop one two', 'drop  one', 'use  a', 'use a  b', 'use a '):
            self.assertFalse(self.check(EXAMPLE, command))

    def test_words_that_are_none(self):
        for command in ('Shortest', 'short', 'shortestx', 'shortest\n', '\nshortest', 'shortest\t', 'serve a', 'useless a', 'usea',
                        'add a', 'remove one', 'copy', 'history', 'library', 'names', 'quit', 'help', '-', 'a', 'none', 'yes',
                        'serves\ta', 'drop\tone', 'drop\none', 'line\n'):
            self.assertFalse(self.check(EXAMPLE, command))

    def test_names(self):
        for name in WRONG_NAMES:
            if name != 'a b':
                for command in (f'drop {name}', f'need {name} p', f'need one {name}', f'unneed {name} g', f'unneed one {name}'):
                    self.assertFalse(self.check(EXAMPLE, command))
        for name in ('zz', '0', 'abcdefgh'):
            for command in (f'drop {name}', f'need {name} p', f'need one {name}', f'unneed {name} g', f'unneed one {name}'):
                self.assertTrue(self.check(EXAMPLE, command))

    def test_lines(self):
        for text in ('a', '-', 'a b', '(a b)', '(a b) (a b)', 'zz', '(a zz)', ' '.join(['a'] * 200), 'a (b c d)'):
            for word in WITH_LINE:
                self.assertTrue(self.check(EXAMPLE, f'{word} {text}'))
        for text in ('(a)', '(b a)', '(a a)', '()', '(a b', 'a b)', '( a b)', '- a', 'a -', '--', 'a\nb', '-\n-', 'a\n', 'A',
                     ' '.join(['a'] * 201), 'a,b', 'abcdefghi', '(a b)(a b)', 'a  b'):
            for word in WITH_LINE:
                self.assertFalse(self.check(EXAMPLE, f'{word} {text}'))

    def test_one_sign_changed(self):
        right = wrong = 0
        for command in ('shortest', 'serves a b', 'use (a b)', 'count 10', 'need one p', 'drop one', 'fails -', 'text'):
            for changed in changed_texts(command, (' ', '\n', '-', '(', ')', 'a', '0', '9', 'Z', '/')):
                if self.check(EXAMPLE, changed):
                    right += 1
                else:
                    wrong += 1
        self.assertGreater(min(right, wrong), 100)


class ErrorsTest(Base):
    def test_errors_of_the_functions_and_of_the_workspace(self):
        session = session_of(EXAMPLE)
        for word in WITH_LINE:
            self.refused(session, f'{word} a zz', InvalidLine, ('a', 'zz'))
            self.refused(session, f'{word} (a zz)', InvalidLine, (('a', 'zz'),))
        for command, name in (('need zz p', 'zz'), ('need a p', 'a'), ('unneed p p', 'p'), ('drop b', 'b'), ('drop zz', 'zz')):
            self.refused(session, command, UnknownName, name)
        self.refused(session, 'undo', NothingToUndo)
        self.refused(session, 'prune', DoesNotServe, ())
        session.run('use (a b)')
        self.refused(session, 'repair', InvalidLine, (('a', 'b'),))
        self.refused(session, 'prune', InvalidLine, (('a', 'b'),))
        for symbol in ('n1', 'n2', 'n3', 'n4', 'n5', 'n6', 'n7'):
            session.run(f'need one {symbol}')
        needs = ('g', 'n1', 'n2', 'n3', 'n4', 'n5', 'n6', 'n7', 'n8')
        cee = EXAMPLE[0][1][0]
        self.refused(session, 'need one n8', InvalidLibrary, (('a', (cee, ('one', ('f',), needs))), EXAMPLE[1]))
        self.assertEqual(session.run('line'), '(a b)')

    def test_a_repaired_line_of_more_than_200_items(self):
        session = session_of(rows_of(('ab',)))
        session.run('use ' + ' '.join(['a'] * 200))
        self.refused(session, 'repair', InvalidLine, ('a',) * 200)
        session.run('use ' + ' '.join(['a'] * 199))
        self.assertEqual(session.run('repair'), '1')
        self.assertEqual(session.run('line'), ' '.join(['a'] * 199 + ['b']))

    def test_the_form_comes_ahead_of_all_other_errors(self):
        for archives in (layers_of(LAYERS_CROWDED), layers_of(LAYERS_1000, 1), rows_of(ROWS_5001)):
            session = session_of(archives)
            for command in ('shortest ', 'serves (b a)', 'serves', 'fails (zz)', 'count 61', 'count 07', 'count', 'use a  b', 'repair 1',
                            'prune now', 'words ', 'need zz A', 'drop', 'undo undo', 'use ' + ' '.join(['zz'] * 201), '', 'x', None, [], 7):
                self.refused(session, command, CommandError)

    def test_search_errors(self):
        for archives, kind in ((layers_of(LAYERS_CROWDED), TooManyChains), (layers_of(LAYERS_1000, 1), TooManyChains),
                               (rows_of(ROWS_5001), TooManyStates)):
            session = session_of(archives)
            for command in ('shortest', 'count 0', 'count 60', 'repair', 'prune'):
                self.refused(session, command, kind)
            for command in ('serves -', 'fails -', 'words') if kind is TooManyChains else ():
                self.refused(session, command, kind)
            for word in WITH_LINE:
                self.refused(session, f'{word} zz', InvalidLine, ('zz',))
            self.assertEqual(session.run('groups'), format_line(grouped_line(Library(archives))))
            self.assertEqual(session.run('use -'), 'ok')


class HistoryTest(Base):
    def test_all_strings_that_were_passed(self):
        session = session_of(EXAMPLE)
        self.assertEqual(session.history(), ())
        for command in ('shortest', 'nonsense', '', 'undo', 'use a b', 'use zz', 'undo', 'undo', 'shortest', 'shortest '):
            try:
                session.run(command)
            except LinkError:
                pass
        self.assertEqual(session.history(), (
            ('shortest', True), ('nonsense', False), ('', False), ('undo', False), ('use a b', True), ('use zz', False),
            ('undo', True), ('undo', False), ('shortest', True), ('shortest ', False)))

    def test_what_is_not_a_string_is_not_in_it(self):
        session = session_of(EXAMPLE)
        strings = []
        for value in any_values():
            self.refused(session, value, CommandError)
            strings += [(value, False)] if type(value) is str else []
        self.assertTrue(same_value(session.history(), tuple(strings)))
        self.assertEqual(session.run('line'), '-')
        self.refused(session, 'undo', NothingToUndo)

    def test_a_history_that_was_returned_does_not_change(self):
        session = session_of(EXAMPLE)
        session.run('line')
        history = session.history()
        session.run('text')
        self.assertEqual(history, (('line', True),))
        self.assertEqual(session.history(), (('line', True), ('text', True)))
        self.assertTrue(all(type(right) is bool for _, right in session.history()))

    def test_random_commands(self):
        seen = {True: 0, False: 0}
        for seed in range(40):
            source = random.Random(seed)
            archives = sample_archives(seed)
            session, desk, expected = session_of(archives), Workspace(archives), []
            members = Library(archives).members() + ('zz',)
            lines = [format_line(line) for line in some_lines(source, archives, 5)] + ['zz', '(b a)']
            for _ in range(40):
                command = source.choice(SIMPLE + tuple(f'{word} {source.choice(lines)}' for word in WITH_LINE) + (
                    f'count {source.randint(0, 63)}', f'need {source.choice(members)} s{source.randint(0, 29)}',
                    f'unneed {source.choice(members)} s{source.randint(0, 29)}', f'drop {source.choice(members)}'))
                try:
                    answer = read_answer(desk, command) if reads_as_command(command) else None
                except LinkError as error:
                    self.refused(session, command, type(error), getattr(error, 'value', None))
                    answer = ''
                else:
                    if answer is None:
                        self.refused(session, command, CommandError)
                    else:
                        self.assertTrue(same_value(session.run(command), answer), command)
                expected.append((command, bool(answer)))
                seen[bool(answer)] += 1
            self.assertTrue(same_value(session.history(), tuple(expected)))
            self.assertTrue(same_value(session.run('line'), format_line(desk.line())))
        self.assertGreater(min(seen.values()), 200)


class ConventionsTest(Base):
    def test_arguments_by_name(self):
        text = format_library(Library(EXAMPLE))
        session, = keyword_calls(Session, text=text)
        self.assertEqual(keyword_calls(session.run, command='shortest'), ['a b a b'])
        value = ['shortest']
        with self.assertRaises(CommandError) as context:
            session.run(command=value)
        self.assertIs(context.exception.command, value)
        with self.assertRaises(ParseError):
            Session(text=value)

    def test_equal_queries_return_equal_answers(self):
        session = session_of(RING)
        for command in ('shortest', 'groups', 'serves a b', 'fails a b', 'count 9', 'line', 'words', 'text'):
            answers = {session.run(command) for _ in range(3)}
            self.assertEqual(len(answers), 1)
        self.assertEqual(len(session.history()), 24)
        self.assertTrue(only_tuples(tuple(command for command, _ in session.history())))
        self.assertIs(type(session.history()), tuple)
        self.assertEqual({type(pair) for pair in session.history()}, {tuple})


if __name__ == '__main__':
    unittest.main()

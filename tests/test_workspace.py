"""Point 14 and guarantee (h): workspaces, their edits, and the way back."""

import copy
import itertools
import random
import unittest

from linkorder.errors import (
    DoesNotServe, InvalidLibrary, InvalidLine, InvalidMember, InvalidName, LinkError, NothingToUndo, TooManyChains,
    TooManyStates, UnknownName,
)
from linkorder.libraries import Library
from linkorder.repairs import pruned, repaired
from linkorder.workspace import Workspace
from tests.helpers import (
    EXAMPLE, LAYERS_1000, LAYERS_CROWDED, RICH, RIGHT_NAMES, RING, ROWS_5001, WRONG_NAMES, any_values, keyword_calls,
    layers_of, only_tuples, reads_as_library, reads_as_line, reads_as_member, reads_as_name, reads_as_serving, row_of,
    rows_of, run_examples, same_value, sample_archives, some_lines, variants,
)

DOCUMENT = """
>>> from linkorder.workspace import Workspace
>>> desk = Workspace(library.archives)
>>> desk.set_line(('a', 'b', 'a', 'b'))
>>> desk.add_need('one', 'p')
>>> (desk.serves(), desk.prune(), desk.line(), desk.changes())
(True, 1, ('b', 'a', 'b'), 3)
"""

EMPTY = (('a', ()), ('b', ()))
EIGHT = tuple((f'a{at}', ()) for at in range(8))
NEW = ('new', ('n1', 'n2'), ('f',))


def full_archive(count):
    """Return an archive with so many members that use nothing."""
    return ('a', tuple((f'm{at:02}', (f's{at:02}',), ()) for at in range(count)))


# A second reading of the edits: archives and line after them, or the error with its value.

class Refused(Exception):
    pass


def valid(archives):
    if not reads_as_library(archives):
        raise Refused(InvalidLibrary, archives)
    return archives


def names_in(archives):
    return [name for name, _ in archives]


def member_in(archives, name):
    found = [member for _, members in archives for member in members if type(name) is str and member[0] == name]
    return found[0] if found else None


def insert_behind(rows, new):
    """Return rows with one more behind all those whose name is not greater."""
    place = len([row for row in rows if row[0] <= new[0]])
    return rows[:place] + (new,) + rows[place:]


def read_add_archive(archives, line, name):
    if not reads_as_name(name):
        raise Refused(InvalidName, name)
    return valid(insert_behind(archives, (name, ()))), line


def read_remove_archive(archives, line, name):
    if type(name) is not str or name not in names_in(archives):
        raise Refused(UnknownName, name)
    kept = []
    for item in line:
        left = [other for other in ([item] if type(item) is str else item) if other != name]
        kept += [left[0]] if len(left) == 1 else [tuple(left)] if left else []
    return tuple(archive for archive in archives if archive[0] != name), tuple(kept)


def read_add_member(archives, line, archive, member):
    if type(archive) is not str or archive not in names_in(archives):
        raise Refused(UnknownName, archive)
    if not reads_as_member(member):
        raise Refused(InvalidMember, member)
    return valid(tuple((name, insert_behind(members, member) if name == archive else members)
                       for name, members in archives)), line


def read_remove_member(archives, line, name):
    if member_in(archives, name) is None:
        raise Refused(UnknownName, name)
    return tuple((home, tuple(row for row in members if row[0] != name)) for home, members in archives), line


def with_needs(archives, name, needs):
    return tuple((home, tuple((row[0], row[1], tuple(sorted(needs))) if row[0] == name else row for row in members))
                 for home, members in archives)


def read_need(archives, line, name, symbol, adding):
    member = member_in(archives, name)
    if member is None:
        raise Refused(UnknownName, name)
    if not reads_as_name(symbol):
        raise Refused(InvalidName, symbol)
    needs = set(member[2]) | {symbol} if adding else set(member[2]) - {symbol}
    return valid(with_needs(archives, name, needs)), line


def read_add_need(archives, line, name, symbol):
    return read_need(archives, line, name, symbol, True)


def read_remove_need(archives, line, name, symbol):
    return read_need(archives, line, name, symbol, False)


def read_set_line(archives, line, new):
    if not reads_as_line(archives, new):
        raise Refused(InvalidLine, new)
    return archives, new


READINGS = {
    'add_archive': read_add_archive, 'remove_archive': read_remove_archive, 'add_member': read_add_member,
    'remove_member': read_remove_member, 'add_need': read_add_need, 'remove_need': read_remove_need,
    'set_line': read_set_line,
}
PARAMETERS = {
    'add_archive': ('name',), 'remove_archive': ('name',), 'add_member': ('archive', 'member'),
    'remove_member': ('name',), 'add_need': ('name', 'symbol'), 'remove_need': ('name', 'symbol'), 'set_line': ('line',),
}


def state_of(desk):
    return desk.library().archives, desk.line(), desk.changes()


class Base(unittest.TestCase):
    def desk(self, archives, line=()):
        """Return a workspace with a line, and one edit that can be undone."""
        desk = Workspace(archives)
        desk.set_line(line)
        return desk

    def edit(self, desk, name, *arguments):
        """Carry out an edit, check it beside the second reading, and return whether it raised no error."""
        archives, line, changes = state_of(desk)
        before = copy.deepcopy(arguments)
        try:
            expected = READINGS[name](archives, line, *arguments)
        except Refused as refused:
            kind, value = refused.args
            with self.assertRaises(LinkError) as context:
                getattr(desk, name)(*arguments)
            self.assertIs(type(context.exception), kind, (name, arguments))
            self.assertTrue(same_value(context.exception.value, value))
            if kind is not InvalidLibrary:
                self.assertTrue(any(context.exception.value is argument for argument in arguments))
            self.assertTrue(same_value(state_of(desk), (archives, line, changes)))
            expected = None
        else:
            self.assertIsNone(getattr(desk, name)(*arguments))
            self.assertTrue(same_value(state_of(desk), expected + (changes + 1,)), (name, arguments))
        self.assertTrue(same_value(arguments, before))
        return expected is not None

    def refused(self, desk, kind, value, name, *arguments):
        """Check that an edit raises this error with this value, and changes nothing."""
        before = state_of(desk)
        with self.assertRaises(LinkError) as context:
            getattr(desk, name)(*arguments)
        self.assertIs(type(context.exception), kind)
        self.assertTrue(same_value(context.exception.value, value))
        self.assertTrue(same_value(state_of(desk), before))


class DocumentTest(Base):
    def test_the_example_of_the_document(self):
        self.assertEqual(run_examples(DOCUMENT, {'library': Library(EXAMPLE)}), (5, 0))


class NewWorkspaceTest(Base):
    def test_without_archives(self):
        for desk in (Workspace(), Workspace(()), Workspace(archives=())):
            self.assertEqual(desk.library(), Library(()))
            self.assertEqual((desk.line(), desk.changes(), desk.serves()), ((), 0, True))

    def test_with_archives(self):
        for archives in (EXAMPLE, RICH, RING, EMPTY):
            desk = Workspace(archives)
            self.assertIsInstance(desk.library(), Library)
            self.assertEqual(desk.library(), Library(archives))
            self.assertEqual((desk.line(), desk.changes()), ((), 0))
            self.assertIs(desk.serves(), archives == EMPTY)

    def test_any_value(self):
        accepted = 0
        for value in any_values() + variants(EXAMPLE):
            before = copy.deepcopy(value)
            if reads_as_library(value):
                self.assertTrue(same_value(state_of(Workspace(value)), (value, (), 0)))
                accepted += 1
            else:
                with self.assertRaises(InvalidLibrary) as context:
                    Workspace(value)
                self.assertIs(type(context.exception), InvalidLibrary)
                self.assertIs(context.exception.value, value)
            self.assertTrue(same_value(value, before))
        self.assertGreater(accepted, 10)

    def test_two_workspaces_have_nothing_in_common(self):
        one, other = Workspace(), Workspace()
        one.add_archive('a')
        self.assertEqual(state_of(other), ((), (), 0))
        self.assertRaises(NothingToUndo, other.undo)


class EditsTest(Base):
    """Each edit with values of each kind, beside the second reading."""

    def test_add_archive(self):
        for archives in ((), EMPTY, EXAMPLE, EIGHT[:7], EIGHT):
            for value in any_values():
                self.edit(self.desk(archives), 'add_archive', value)
        desk = Workspace(EXAMPLE)
        for name in ('c', '0', 'aa', 'zzzzzzzz', 'b0'):
            self.assertTrue(self.edit(desk, 'add_archive', name))
        self.assertEqual(desk.library().names(), ('0', 'a', 'aa', 'b', 'b0', 'c', 'zzzzzzzz'))

    def test_add_archive_that_is_there(self):
        desk = self.desk(EXAMPLE, ('a', 'b'))
        self.refused(desk, InvalidLibrary, (EXAMPLE[0], ('a', ()), EXAMPLE[1]), 'add_archive', 'a')
        self.refused(desk, InvalidLibrary, (EXAMPLE[0], EXAMPLE[1], ('b', ())), 'add_archive', 'b')

    def test_add_a_ninth_archive(self):
        desk = Workspace(EIGHT[:7])
        self.assertTrue(self.edit(desk, 'add_archive', 'a7'))
        self.refused(desk, InvalidLibrary, EIGHT + (('z', ()),), 'add_archive', 'z')
        self.refused(desk, InvalidLibrary, (('0', ()),) + EIGHT, 'add_archive', '0')
        self.refused(desk, InvalidLibrary, EIGHT[:4] + (EIGHT[3],) + EIGHT[4:], 'add_archive', 'a3')

    def test_remove_archive(self):
        for archives, line in (((), ()), (EMPTY, ('a', 'b')), (EXAMPLE, ('a', ('a', 'b'), 'b')), (RING, ('a', ('a', 'd')))):
            for value in any_values():
                self.edit(self.desk(archives, line), 'remove_archive', value)

    def test_remove_archive_from_the_line(self):
        for line, left in (
            ((), ()), (('a',), ('a',)), (('b',), ()), (('b',) * 200, ()), (('a', 'b', 'a'), ('a', 'a')),
            ((('a', 'b'),), ('a',)), ((('b', 'd'),), ('d',)), ((('a', 'b', 'd'),), (('a', 'd'),)),
            ((('a', 'd'), 'b', ('a', 'b'), 'a'), (('a', 'd'), 'a', 'a')),
            ((('a', 'b', 'c', 'd'), ('b', 'c'), 'b', ('a', 'c')), (('a', 'c', 'd'), 'c', ('a', 'c'))),
        ):
            desk = self.desk(RING, line)
            self.assertTrue(self.edit(desk, 'remove_archive', 'b'))
            self.assertTrue(same_value(desk.line(), left))
            self.assertEqual(desk.library().archives, (RING[0],) + RING[2:])
            desk.undo()
            self.assertTrue(same_value(state_of(desk), (RING, line, 1)))

    def test_remove_the_last_archive(self):
        desk = self.desk((('a', ()),), ('a', 'a'))
        self.assertTrue(self.edit(desk, 'remove_archive', 'a'))
        self.assertEqual(state_of(desk), ((), (), 2))

    def test_add_member(self):
        for archives in ((), EMPTY, EXAMPLE):
            for value in any_values():
                self.edit(self.desk(archives), 'add_member', value, NEW)
                self.edit(self.desk(archives), 'add_member', 'a', value)
                self.edit(self.desk(archives), 'add_member', value, value)
        accepted = 0
        for value in variants(NEW):
            accepted += self.edit(self.desk(EXAMPLE), 'add_member', 'b', value)
        self.assertGreater(accepted, 30)

    def test_a_member_stands_in_the_order_of_the_names(self):
        desk = Workspace(EXAMPLE)
        for name in ('zz', '0', 'd', 'o', 'onf'):
            self.assertTrue(self.edit(desk, 'add_member', 'a', (name, ('s' + name,), ())))
        self.assertEqual([row[0] for row in desk.library().archives[0][1]], ['0', 'cee', 'd', 'o', 'one', 'onf', 'zz'])

    def test_add_a_member_that_is_there(self):
        desk = self.desk(EXAMPLE)
        cee, one = EXAMPLE[0][1]
        new = ('cee', ('x',), ())
        self.refused(desk, InvalidLibrary, (('a', (cee, new, one)), EXAMPLE[1]), 'add_member', 'a', new)
        self.refused(desk, InvalidLibrary, (('a', (cee, one, one)), EXAMPLE[1]), 'add_member', 'a', one)
        new = ('one', ('a',), ())
        self.refused(desk, InvalidLibrary, (('a', (cee, one, new)), EXAMPLE[1]), 'add_member', 'a', new)
        dee, two = EXAMPLE[1][1]
        self.refused(desk, InvalidLibrary, (EXAMPLE[0], ('b', (dee, new, two))), 'add_member', 'b', new)

    def test_add_a_symbol_that_is_defined(self):
        desk = self.desk(EXAMPLE)
        for symbols in (('f',), ('a', 'q'), ('f', 'g', 'p', 'q')):
            for home in ('a', 'b'):
                self.assertFalse(self.edit(desk, 'add_member', home, ('new', symbols, ())))
        self.assertTrue(self.edit(desk, 'add_member', 'a', ('new', ('a', 'x'), ('f', 'g', 'p', 'q', 'x'))))

    def test_add_a_twenty_fifth_member(self):
        archive = full_archive(23)
        desk = Workspace((archive, ('b', ())))
        self.assertTrue(self.edit(desk, 'add_member', 'b', ('m23', ('s23',), ())))
        new = ('a', ('new',), ())
        self.refused(desk, InvalidLibrary, (('a', (new,) + archive[1]), ('b', (('m23', ('s23',), ()),))),
                     'add_member', 'a', new)
        self.refused(desk, InvalidLibrary, (archive, ('b', (new, ('m23', ('s23',), ())))), 'add_member', 'b', new)
        desk.remove_member('m00')
        self.assertTrue(self.edit(desk, 'add_member', 'b', new))

    def test_remove_member(self):
        for archives in ((), EMPTY, EXAMPLE, RICH):
            for value in any_values() + ['one', 'two', 'm1', 'k9', 'f', 'a1']:
                self.edit(self.desk(archives), 'remove_member', value)
        desk = self.desk(EXAMPLE, ('a', 'b'))
        for name in ('one', 'cee', 'dee', 'two'):
            self.assertTrue(self.edit(desk, 'remove_member', name))
        self.assertEqual(state_of(desk), (EMPTY, ('a', 'b'), 5))

    def test_needs(self):
        for name in ('add_need', 'remove_need'):
            for archives in ((), EMPTY, EXAMPLE):
                for value in any_values():
                    self.edit(self.desk(archives), name, value, 'x')
                    self.edit(self.desk(archives), name, 'one', value)
                    self.edit(self.desk(archives), name, value, value)

    def test_needs_are_in_order(self):
        desk = Workspace(EXAMPLE)
        for symbol in ('z', 'a', 'g', 'gg', '0', 'f'):
            self.assertTrue(self.edit(desk, 'add_need', 'one', symbol))
        self.assertEqual(desk.library().member('one'), ('one', ('f',), ('0', 'a', 'f', 'g', 'gg', 'z')))
        for symbol in ('a', 'g', 'zz', 'z', '0', 'f', 'gg', 'gg'):
            self.assertTrue(self.edit(desk, 'remove_need', 'one', symbol))
        self.assertEqual(desk.library().member('one'), ('one', ('f',), ()))

    def test_needs_without_effect(self):
        desk = Workspace(EXAMPLE)
        desk.add_need('one', 'g')
        self.assertEqual(state_of(desk), (EXAMPLE, (), 1))
        desk.remove_need('one', 'x')
        self.assertEqual(state_of(desk), (EXAMPLE, (), 2))
        desk.undo()
        desk.undo()
        self.assertEqual(state_of(desk), (EXAMPLE, (), 0))
        self.assertRaises(NothingToUndo, desk.undo)

    def test_a_ninth_need(self):
        desk = Workspace((('a', (('m', ('s',), tuple(f'n{at}' for at in range(7))),)), ('b', ())))
        self.assertTrue(self.edit(desk, 'add_need', 'm', 'n7'))
        eight = tuple(f'n{at}' for at in range(8))
        for symbol, needs in (('z', eight + ('z',)), ('a', ('a',) + eight), ('n33', eight[:4] + ('n33',) + eight[4:])):
            self.refused(desk, InvalidLibrary, (('a', (('m', ('s',), needs),)), ('b', ())), 'add_need', 'm', symbol)
        # A need that is there already has no effect, and so no error.
        self.assertTrue(self.edit(desk, 'add_need', 'm', 'n3'))
        self.assertTrue(self.edit(desk, 'remove_need', 'm', 'n3'))
        self.assertTrue(self.edit(desk, 'add_need', 'm', 'a'))

    def test_set_line(self):
        accepted = 0
        for archives in ((), EMPTY, EXAMPLE, (('a', ()), ('archive', ()))):
            for value in any_values():
                accepted += self.edit(self.desk(archives), 'set_line', value)
                accepted += self.edit(self.desk(archives), 'set_line', (value,))
        for value in variants(('a', ('a', 'b'))):
            accepted += self.edit(self.desk(EXAMPLE), 'set_line', value)
        self.assertGreater(accepted, 20)

    def test_lines_of_200_and_201_items(self):
        desk = Workspace(EXAMPLE)
        for count in (0, 1, 199, 200, 201, 202):
            for item in ('a', ('a', 'b')):
                self.assertIs(self.edit(desk, 'set_line', (item,) * count), count <= 200)


class OrderOfErrorsTest(Base):
    def test_add_archive(self):
        # There is no room for one more, but the name is looked at first.
        desk = self.desk(EIGHT)
        for name in WRONG_NAMES + (None, [], ('a',), 7, True, {}):
            self.refused(desk, InvalidName, name, 'add_archive', name)

    def test_add_member(self):
        desk = self.desk((full_archive(24), ('b', ())))
        for archive in ('zz', 'm00', '', None, [], ('a',), 1):
            for member in (None, 'm00', ('m00', ('s00',), ()), ('new', (), ()), []):
                self.refused(desk, UnknownName, archive, 'add_member', archive, member)
        for member in (None, 'm00', ('m00', (), ()), ['m00', ('s00',), ()], ('m00', ('s00', 's00'), ())):
            self.refused(desk, InvalidMember, member, 'add_member', 'a', member)

    def test_needs(self):
        needs = tuple(f'n{at}' for at in range(8))
        desk = self.desk((('a', (('m', ('s',), needs),)),))
        for edit in ('add_need', 'remove_need'):
            for name in ('a', 's', 'zz', '', None, ['m'], ('m', ('s',), needs), 1):
                for symbol in (None, '', 'A', 'new', 'n0', [], name):
                    self.refused(desk, UnknownName, name, edit, name, symbol)
            for symbol in WRONG_NAMES + (None, [], ('n0',), 7, True):
                self.refused(desk, InvalidName, symbol, edit, 'm', symbol)
        self.assertFalse(self.edit(desk, 'add_need', 'm', 'new'))

    def test_repair_and_prune(self):
        crowded = layers_of(LAYERS_CROWDED)
        for archives, kind in ((crowded, TooManyChains), (layers_of(LAYERS_1000, 1), TooManyChains),
                               (rows_of(ROWS_5001), TooManyStates)):
            desk = Workspace(archives)
            names = desk.library().names()
            grouped = (names[0], names[:2])
            desk.set_line(grouped)
            for name in ('repair', 'prune'):
                self.refused(desk, InvalidLine, grouped, name)
            # None of these lines serves, and the repaired one of the last would be too long.
            for line in ((), names, names[-1:] * 200):
                desk.set_line(line)
                before = state_of(desk)
                for edit in (desk.repair, desk.prune):
                    with self.assertRaises(LinkError) as context:
                        edit()
                    self.assertIs(type(context.exception), kind)
                    self.assertTrue(same_value(state_of(desk), before))


class RepairAndPruneTest(Base):
    def test_the_numbers_that_they_return(self):
        desk = self.desk(EXAMPLE, ('b', 'b', 'a'))
        self.assertTrue(same_value(desk.repair(), 2))
        self.assertEqual((desk.line(), desk.changes()), (tuple('ababa'), 2))
        self.assertTrue(same_value(desk.repair(), 0))
        self.assertEqual((desk.line(), desk.changes()), (tuple('ababa'), 3))
        self.assertTrue(same_value(desk.prune(), 1))
        self.assertEqual((desk.line(), desk.changes()), (tuple('abab'), 4))
        self.assertTrue(same_value(desk.prune(), 0))
        self.assertEqual((desk.line(), desk.changes()), (tuple('abab'), 5))
        for line in ('abab', 'ababa', 'ababa', 'bba', ''):
            desk.undo()
            self.assertEqual(desk.line(), tuple(line))

    def test_a_line_that_does_not_serve_is_not_pruned(self):
        for line in ((), ('a',), ('b', 'a', 'b', 'a')):
            desk = self.desk(EXAMPLE, line)
            self.refused(desk, DoesNotServe, line, 'prune')

    def test_a_line_with_groups_is_neither_repaired_nor_pruned(self):
        for line in ((('a', 'b'),), ('a', ('a', 'b'), 'b'), ('a',) * 199 + (('a', 'b'),)):
            desk = self.desk(EXAMPLE, line)
            self.refused(desk, InvalidLine, line, 'repair')
            self.refused(desk, InvalidLine, line, 'prune')

    def test_a_repaired_line_of_200_and_of_more_items(self):
        archives = rows_of(('ab',))
        for count in (197, 198, 199, 200):
            line = ('a',) * count
            desk = self.desk(archives, line)
            if count < 200:
                self.assertEqual(desk.repair(), 1)
                self.assertEqual(desk.line(), line + ('b',))
            else:
                self.refused(desk, InvalidLine, line, 'repair')
        desk = self.desk(row_of(24), ('a7',) * 180)
        self.refused(desk, InvalidLine, ('a7',) * 180, 'repair')
        desk.set_line(('a7',) * 179)
        self.assertEqual(desk.repair(), 21)
        self.assertEqual(len(desk.line()), 200)

    def test_libraries_without_words(self):
        for archives, line in (((), ()), (EMPTY, ()), (EMPTY, ('b', 'a', 'b'))):
            desk = self.desk(archives, line)
            self.assertEqual(desk.repair(), 0)
            self.assertEqual(desk.line(), line)
            self.assertEqual(desk.prune(), len(line))
            self.assertEqual(desk.line(), ())

    def test_samples(self):
        changed = 0
        for seed in range(80):
            archives = sample_archives(seed)
            for line in some_lines(random.Random(seed), archives, 5)[::2]:
                desk = self.desk(archives, line)
                longer = repaired(Library(archives), line)
                self.assertEqual(desk.repair(), len(longer) - len(line))
                self.assertTrue(same_value(desk.line(), longer))
                shorter = pruned(Library(archives), longer)
                self.assertEqual(desk.prune(), len(longer) - len(shorter))
                self.assertTrue(same_value(desk.line(), shorter))
                changed += len(shorter) < len(longer) > len(line)
        self.assertGreater(changed, 30)


class ServesTest(Base):
    def test_lines_with_and_without_groups(self):
        for line in ((), ('a',), ('a', 'b', 'a', 'b'), ('b', 'a', 'b', 'a'), (('a', 'b'),), ('a', ('a', 'b')), ('b', 'a') * 3):
            self.assertIs(self.desk(EXAMPLE, line).serves(), reads_as_serving(EXAMPLE, line))

    def test_too_many_chains(self):
        archives = layers_of(LAYERS_1000)
        desk = Workspace(archives)
        names = desk.library().names()
        desk.set_line((names,))
        self.assertIs(desk.serves(), True)
        desk.add_member('a0', ('extra', ('extra',), ()))
        for line in ((), names, (names,)):
            desk.set_line(line)
            with self.assertRaises(TooManyChains) as context:
                desk.serves()
            self.assertIs(type(context.exception), TooManyChains)
        for _ in range(4):
            desk.undo()
        self.assertIs(desk.serves(), True)

    def test_queries_change_nothing(self):
        desk = self.desk(EXAMPLE, ('a', 'b'))
        before = state_of(desk)
        for _ in range(3):
            self.assertIs(desk.serves(), False)
            self.assertEqual(desk.copy().line(), ('a', 'b'))
            self.assertTrue(same_value(state_of(desk), before))


class UndoTest(Base):
    def test_nothing_to_undo(self):
        for desk in (Workspace(), Workspace(EXAMPLE)):
            for _ in range(2):
                with self.assertRaises(NothingToUndo) as context:
                    desk.undo()
                self.assertIs(type(context.exception), NothingToUndo)
            desk.add_archive('new')
            self.assertIsNone(desk.undo())
            self.assertRaises(NothingToUndo, desk.undo)

    def test_an_edit_that_raised_an_error_is_not_undone(self):
        desk = self.desk(EXAMPLE, ('a',))
        for name, arguments in (('add_archive', ('a',)), ('remove_archive', ('zz',)), ('add_member', ('a', None)),
                                ('remove_member', ('zz',)), ('add_need', ('one', 7)), ('set_line', (None,)), ('prune', ())):
            with self.assertRaises(LinkError):
                getattr(desk, name)(*arguments)
        self.assertEqual(state_of(desk), (EXAMPLE, ('a',), 1))
        desk.undo()
        self.assertEqual(state_of(desk), (EXAMPLE, (), 0))

    def test_edits_after_an_undo(self):
        desk = Workspace()
        desk.add_archive('a')
        desk.add_archive('b')
        desk.undo()
        desk.add_archive('c')
        self.assertEqual(state_of(desk), ((('a', ()), ('c', ())), (), 2))
        desk.undo()
        desk.undo()
        self.assertEqual(state_of(desk), ((), (), 0))


class CopyTest(Base):
    def test_a_copy_is_in_the_same_state_and_can_be_undone(self):
        desk = self.desk(EXAMPLE, ('a', 'b'))
        desk.add_need('one', 'p')
        twin = desk.copy()
        self.assertIsInstance(twin, Workspace)
        self.assertTrue(same_value(state_of(twin), state_of(desk)))
        twin.undo()
        self.assertEqual(state_of(twin), (EXAMPLE, ('a', 'b'), 1))
        twin.undo()
        self.assertEqual(state_of(twin), (EXAMPLE, (), 0))
        self.assertRaises(NothingToUndo, twin.undo)
        self.assertEqual(desk.changes(), 2)
        self.assertEqual(desk.library().member('one')[2], ('g', 'p'))

    def test_edits_of_one_do_not_show_in_the_other(self):
        desk = self.desk(EXAMPLE, ('a', 'b'))
        twin = desk.copy()
        before = state_of(desk)
        for name, arguments in (('add_archive', ('c',)), ('add_member', ('c', NEW)), ('add_need', ('new', 'x')),
                                ('remove_member', ('one',)), ('set_line', (('a', 'c'),)), ('remove_archive', ('a',)),
                                ('repair', ()), ('prune', ()), ('undo', ()), ('undo', ())):
            getattr(twin, name)(*arguments)
            self.assertTrue(same_value(state_of(desk), before))
        after = state_of(twin)
        desk.undo()
        desk.add_archive('z')
        self.assertTrue(same_value(state_of(twin), after))
        while twin.changes():
            twin.undo()
        self.assertEqual(state_of(twin), (EXAMPLE, (), 0))
        self.assertEqual(state_of(desk), (EXAMPLE + (('z', ()),), (), 1))

    def test_a_copy_of_a_copy(self):
        desk = self.desk(EXAMPLE, ('b',))
        third = desk.copy().copy()
        desk.undo()
        self.assertEqual(state_of(third), (EXAMPLE, ('b',), 1))


class HistoriesTest(Base):
    """Any edits, errors and undos that a random source decides."""

    def some_edit(self, source, desk):
        archives = desk.library().archives
        homes = names_in(archives) + ['zz', None]
        members = [row[0] for _, rows in archives for row in rows] + ['zz', []]
        symbols = [f's{at}' for at in range(8)] + ['x', 'A', 5]
        name = source.choice(sorted(READINGS))
        if name == 'add_archive':
            return name, (source.choice(['a', 'b', 'c', 'd', 'e', 'B', 3]),)
        if name == 'remove_archive':
            return name, (source.choice(homes),)
        if name == 'add_member':
            defines = tuple(sorted(source.sample(symbols[:8], source.randint(1, 2))))
            needs = tuple(sorted(source.sample(symbols[:9], source.randint(0, 3))))
            member = source.choice([(f'm{source.randint(0, 9)}', defines, needs)] * 5 + [None])
            return name, (source.choice(homes), member)
        if name == 'remove_member':
            return name, (source.choice(members),)
        if name == 'set_line':
            return name, (source.choice(some_lines(source, archives, 4) + [None, ('zz',)]),)
        return name, (source.choice(members), source.choice(symbols))

    def check_as_new(self, desk):
        """Check that the workspace returns what a new one with the same library and line returns."""
        new = self.desk(desk.library().archives, desk.line())
        self.assertEqual(new.library(), desk.library())
        self.assertTrue(same_value(new.line(), desk.line()))
        self.assertIs(new.serves(), desk.serves())
        self.assertIs(desk.serves(), reads_as_serving(desk.library().archives, desk.line()))
        for name in ('repair', 'prune'):
            results = []
            for twin in (new.copy(), desk.copy()):
                try:
                    results.append((getattr(twin, name)(), twin.line(), twin.library().archives))
                except LinkError as error:
                    results.append((type(error), vars(error), twin.line()))
            self.assertTrue(same_value(*results))

    def test_histories(self):
        done = {True: 0, False: 0}
        for seed in range(40):
            source = random.Random(seed)
            desk = Workspace(sample_archives(seed) if seed % 2 else ())
            kept = [state_of(desk)]
            for _ in range(60):
                if source.random() < 0.15 and len(kept) > 1:
                    desk.undo()
                    kept.pop()
                elif source.random() < 0.1:
                    if all(type(item) is str for item in desk.line()):
                        desk.repair()
                        kept.append(state_of(desk))
                else:
                    name, arguments = self.some_edit(source, desk)
                    right = self.edit(desk, name, *arguments)
                    done[right] += 1
                    if right:
                        kept.append(state_of(desk))
                self.assertTrue(same_value(state_of(desk), kept[-1]))
            self.check_as_new(desk)
            twin = desk.copy()
            while len(kept) > 1:
                desk.undo()
                kept.pop()
                self.assertTrue(same_value(state_of(desk), kept[-1]))
            self.assertRaises(NothingToUndo, desk.undo)
            self.check_as_new(twin)
        self.assertGreater(min(done.values()), 200)


class ConventionsTest(Base):
    def test_arguments_by_name_in_any_order(self):
        right = {'add_archive': ('c',), 'remove_archive': ('a',), 'add_member': ('a', NEW), 'remove_member': ('one',),
                 'add_need': ('one', 'x'), 'remove_need': ('one', 'g'), 'set_line': (('a', 'b'),)}
        for name, arguments in right.items():
            expected = READINGS[name](EXAMPLE, (), *arguments) + (1,)
            named = dict(zip(PARAMETERS[name], arguments))
            for order in itertools.permutations(named.items()):
                desk = Workspace(archives=EXAMPLE)
                self.assertIsNone(getattr(desk, name)(**dict(order)))
                self.assertTrue(same_value(state_of(desk), expected))
        self.assertEqual([state_of(desk) for desk in keyword_calls(Workspace, archives=EXAMPLE)], [(EXAMPLE, (), 0)])

    def test_right_and_wrong_names(self):
        for name in RIGHT_NAMES:
            self.assertTrue(self.edit(Workspace(), 'add_archive', name))
        for name in WRONG_NAMES:
            self.assertFalse(self.edit(Workspace(), 'add_archive', name))

    def test_all_returned_sequences_are_tuples(self):
        desk = self.desk(RING, ('a', ('a', 'b'), 'd'))
        for name, arguments in (('add_archive', ('e',)), ('add_member', ('e', NEW)), ('add_need', ('new', 'x')),
                                ('remove_need', ('new', 'f')), ('remove_archive', ('b',)), ('remove_member', ('m1',)),
                                ('repair', ()), ('prune', ()), ('undo', ())):
            if name == 'repair':
                desk.set_line(('a',))
            getattr(desk, name)(*arguments)
            self.assertTrue(only_tuples(desk.library().archives))
            self.assertTrue(only_tuples(desk.line()))
            self.assertTrue(same_value(desk.line(), desk.line()))
            self.assertEqual(desk.library(), desk.library())


if __name__ == '__main__':
    unittest.main()

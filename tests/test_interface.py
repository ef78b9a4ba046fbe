"""The interface at the end of the document: every name, its arguments, and where the methods stand."""

import importlib
import inspect
import unittest

FUNCTIONS = {
    'libraries': {'is_name': ('value',), 'is_member': ('value',)},
    'programs': {'is_program': ('value',), 'closure': ('library', 'program'), 'obstacles': ('library', 'program'),
                 'is_buildable': ('library', 'program')},
    'linking': {'is_line': ('library', 'value'), 'link': ('library', 'line', 'program'), 'links': ('library', 'line', 'program')},
    'chains': {'uses': ('library',), 'is_chain': ('library', 'value'), 'word': ('library', 'chain'), 'chains': ('library',),
               'words': ('library',)},
    'serving': {'letters_read': ('library', 'line', 'letters'), 'serves': ('library', 'line'), 'unread_chain': ('library', 'line'),
                'failing_program': ('library', 'line'), 'chain_program': ('library', 'chain')},
    'shortest': {'shortest_line': ('library',), 'state_after': ('library', 'line'), 'distance': ('library', 'state')},
    'certificates': {'certificate': ('library',), 'shows_shortest': ('library', 'value')},
    'given': {'shortest_for': ('library', 'programs')},
    'counting': {'line_count': ('library', 'length'), 'line_at': ('library', 'length', 'number'), 'line_number': ('library', 'line')},
    'repairs': {'repaired': ('library', 'line'), 'pruned': ('library', 'line'), 'grouped_line': ('library',)},
    'formats': {'format_library': ('library',), 'format_line': ('line',), 'format_program': ('program',),
                'parse_library': ('text',), 'parse_line': ('text',), 'parse_program': ('text',)},
}
CLASSES = {
    ('libraries', 'Library'): {'__init__': ('archives',), 'names': (), 'members': (), 'member': ('name',), 'archive_of': ('name',),
                               'definer': ('symbol',)},
    ('workspace', 'Workspace'): {
        '__init__': ('archives',), 'add_archive': ('name',), 'remove_archive': ('name',), 'add_member': ('archive', 'member'),
        'remove_member': ('name',), 'add_need': ('name', 'symbol'), 'remove_need': ('name', 'symbol'), 'set_line': ('line',),
        'repair': (), 'prune': (), 'undo': (), 'library': (), 'line': (), 'changes': (), 'serves': (), 'copy': ()},
    ('session', 'Session'): {'__init__': ('text',), 'run': ('command',), 'history': ()},
}


def found_in(module, name):
    return getattr(importlib.import_module(f'linkorder.{module}'), name)


class InterfaceTest(unittest.TestCase):
    def test_functions(self):
        for module, functions in FUNCTIONS.items():
            for name, parameters in functions.items():
                function = found_in(module, name)
                self.assertTrue(inspect.isfunction(function), name)
                self.assertEqual(tuple(inspect.signature(function).parameters), parameters, name)
                self.assertEqual(function.__module__, f'linkorder.{module}')

    def test_methods_stand_in_the_class_itself(self):
        for (module, name), methods in CLASSES.items():
            kind = found_in(module, name)
            self.assertEqual(kind.__module__, f'linkorder.{module}')
            for method, parameters in methods.items():
                self.assertIn(method, vars(kind), name)
                self.assertEqual(tuple(inspect.signature(vars(kind)[method]).parameters)[1:], parameters, method)

    def test_only_the_archives_of_a_workspace_may_be_left_out(self):
        parts = [function for module, functions in FUNCTIONS.items() for function in (found_in(module, name) for name in functions)]
        parts += [vars(found_in(*place))[method] for place, methods in CLASSES.items() for method in methods]
        defaults = [(part.__qualname__, parameter.default) for part in parts
                    for parameter in inspect.signature(part).parameters.values() if parameter.default is not parameter.empty]
        self.assertEqual(defaults, [('Workspace.__init__', ())])


if __name__ == '__main__':
    unittest.main()

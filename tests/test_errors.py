"""Point 2 and the interface: the error classes."""

import unittest

from linkorder import errors
from linkorder.errors import LinkError
from tests.helpers import any_values, keyword_calls

ATTRIBUTES = {
    'InvalidLibrary': 'value',
    'InvalidMember': 'value',
    'InvalidName': 'value',
    'UnknownName': 'value',
    'InvalidProgram': 'value',
    'InvalidPrograms': 'value',
    'InvalidLine': 'value',
    'InvalidChain': 'value',
    'InvalidNumber': 'value',
    'TooManyChains': None,
    'TooManyStates': None,
    'DoesNotServe': 'value',
    'NothingToUndo': None,
    'ParseError': 'row',
    'CommandError': 'command',
}
CLASSES = {name: getattr(errors, name, None) for name in ATTRIBUTES}


class ErrorClassesTest(unittest.TestCase):
    def test_every_name_of_the_interface_is_a_class(self):
        for name, kind in CLASSES.items():
            self.assertIsInstance(kind, type, name)
            self.assertEqual(kind.__name__, name)

    def test_link_error_derives_from_value_error(self):
        self.assertEqual(LinkError.__bases__, (ValueError,))
        self.assertIsInstance(LinkError(), ValueError)

    def test_all_others_derive_directly_from_link_error(self):
        for name, kind in CLASSES.items():
            self.assertEqual(kind.__bases__, (LinkError,), name)

    def test_each_error_is_of_its_own_class_alone(self):
        self.assertEqual(len(set(CLASSES.values())), len(CLASSES))
        for kind in CLASSES.values():
            others = [other for other in CLASSES.values() if issubclass(kind, other)]
            self.assertEqual(others, [kind])

    def test_any_value_is_kept_as_it_is(self):
        for name, attribute in ATTRIBUTES.items():
            for value in any_values() if attribute else ():
                before = repr(value)
                error = CLASSES[name](value)
                self.assertIs(getattr(error, attribute), value, name)
                self.assertEqual(repr(value), before)

    def test_the_value_may_be_passed_by_its_name(self):
        for name, attribute in ATTRIBUTES.items():
            for value in any_values() if attribute else ():
                error, = keyword_calls(CLASSES[name], **{attribute: value})
                self.assertIs(getattr(error, attribute), value, name)

    def test_an_error_has_no_other_attribute(self):
        for name, attribute in ATTRIBUTES.items():
            error = CLASSES[name](5) if attribute else CLASSES[name]()
            self.assertEqual(vars(error), {attribute: 5} if attribute else {}, name)
        self.assertEqual(vars(LinkError()), {})

    def test_a_value_is_required_where_one_is_listed(self):
        for name, attribute in ATTRIBUTES.items():
            if attribute:
                self.assertRaises(TypeError, CLASSES[name])

    def test_each_can_be_raised_and_caught_by_its_name(self):
        for name, attribute in ATTRIBUTES.items():
            for caught in (CLASSES[name], LinkError, ValueError):
                with self.assertRaises(caught) as context:
                    raise CLASSES[name]([]) if attribute else CLASSES[name]()
                self.assertIs(type(context.exception), CLASSES[name])


if __name__ == '__main__':
    unittest.main()

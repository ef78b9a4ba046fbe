"""Point 10 and guarantee (c): certificates, and the checker that accepts them for no other length."""

import copy
import itertools
import random
import unittest

from linkorder.certificates import certificate, shows_shortest
from linkorder.errors import TooManyChains, TooManyStates
from linkorder.libraries import Library
from linkorder.shortest import shortest_line
from tests.helpers import (
    EXAMPLE, LAYERS_1000, LAYERS_CROWDED, RICH, RING, ROWS_5000, ROWS_5001, any_values, keyword_calls, layers_of,
    only_tuples, plain_lines, read_chains, read_lines, read_step, read_word, read_words, reads_as_certificate,
    reads_as_serving, rows_of, run_examples, same_value, sample_archives, variants,
)

DOCUMENT = """
>>> from linkorder.certificates import certificate, shows_shortest
>>> ranks = (((0,), 4), ((1,), 3), ((2,), 2), ((3,), 1), ((4,), 0))
>>> shows_shortest(library, (('a', 'b', 'a', 'b'), (('one', 'two', 'cee', 'dee'),), ranks))
True
>>> (shows_shortest(library, (('a', 'b', 'a', 'b', 'a'), (('one', 'two', 'cee', 'dee'),), ranks)), shows_shortest(library, certificate(library)))
(False, True)
"""

EMPTY = (('a', ()), ('b', ()))
LINE = ('a', 'b', 'a', 'b')
CHAIN = ('one', 'two', 'cee', 'dee')
RANKS = (((0,), 4), ((1,), 3), ((2,), 2), ((3,), 1), ((4,), 0))
RIGHT = (LINE, (CHAIN,), RANKS)


def ranks_of(archives, every):
    """Return the best ranks of all states that can be reached: how far the complete one is."""
    start, end = (0,) * len(every), tuple(len(letters) for letters in every)
    reached = read_lines(archives, every, start)
    ranks = {}
    for state in sorted(reached, reverse=True):
        behind = {read_step(every, state, archive) for archive, _ in archives} - {state}
        ranks[state] = 0 if state == end else 1 + min(ranks[other] for other in behind)
    return ranks


class DocumentTest(unittest.TestCase):
    def test_the_example_of_the_document(self):
        self.assertEqual(run_examples(DOCUMENT, {'library': Library(EXAMPLE)}), (4, 0))


class ShowsShortestTest(unittest.TestCase):
    def check(self, archives, value, expected=None):
        before = copy.deepcopy(value)
        result = shows_shortest(Library(archives), value)
        self.assertIs(result, reads_as_certificate(archives, value), value)
        if expected is not None:
            self.assertIs(result, expected, value)
        self.assertTrue(same_value(value, before))
        return result

    def test_any_value(self):
        for archives in ((), EMPTY, EXAMPLE, RING):
            for value in any_values():
                self.check(archives, value, False)
                self.check(archives, (value,) * 3, False)
                self.check(archives, (value,) * 2, False)

    def test_any_value_in_each_of_the_three_places(self):
        for value in any_values():
            self.check(EXAMPLE, (value, (CHAIN,), RANKS), False)
            self.check(EXAMPLE, (LINE, value, RANKS), False)
            self.check(EXAMPLE, (LINE, (CHAIN,), value), False)
            self.check(EXAMPLE, (LINE, (value,), RANKS), False)
            self.check(EXAMPLE, (LINE, (CHAIN,), RANKS + (value,)), False)
            self.check(EXAMPLE, (LINE, (CHAIN,), RANKS[:4] + ((value, 0),)), False)
            self.check(EXAMPLE, (LINE, (CHAIN,), RANKS[:4] + (((value,), 0),)), False)
            self.check(EXAMPLE, (LINE, (CHAIN,), RANKS[:4] + (((4,), value),)), value == 0 and value is not False)

    def test_any_value_at_every_depth(self):
        accepted = refused = 0
        for archives, value in ((EXAMPLE, RIGHT), (RING, certificate(Library(RING))), (EMPTY, certificate(Library(EMPTY)))):
            self.check(archives, value, True)
            for variant in variants(value):
                if self.check(archives, variant):
                    accepted += 1
                else:
                    refused += 1
        self.assertGreater(accepted, 5)
        self.assertGreater(refused, 3000)

    def test_the_right_one(self):
        self.check(EXAMPLE, RIGHT, True)
        for order in itertools.permutations(RANKS):
            self.check(EXAMPLE, (LINE, (CHAIN,), order), True)

    def test_a_rank_more_or_less(self):
        for at, (state, rank) in enumerate(RANKS):
            for other in range(-1, 8):
                value = (LINE, (CHAIN,), RANKS[:at] + ((state, other),) + RANKS[at + 1:])
                self.check(EXAMPLE, value, other == rank)
            for other in (10 ** 30, -10 ** 30, bool(rank), str(rank), None, (rank,)):
                self.check(EXAMPLE, (LINE, (CHAIN,), RANKS[:at] + ((state, other),) + RANKS[at + 1:]), False)

    def test_a_boolean_for_an_integer(self):
        for old, new in ((((0,), 4), ((False,), 4)), (((1,), 3), ((True,), 3)), (((3,), 1), ((3,), True)),
                         (((4,), 0), ((4,), False))):
            ranks = tuple(new if pair == old else pair for pair in RANKS)
            self.assertEqual(ranks, RANKS)
            self.check(EXAMPLE, (LINE, (CHAIN,), ranks), False)

    def test_a_list_for_a_tuple(self):
        for value in ([LINE, (CHAIN,), RANKS], (list(LINE), (CHAIN,), RANKS), (LINE, [CHAIN], RANKS),
                      (LINE, (list(CHAIN),), RANKS), (LINE, (CHAIN,), list(RANKS)),
                      (LINE, (CHAIN,), (list(RANKS[0]),) + RANKS[1:]), (LINE, (CHAIN,), (([0], 4),) + RANKS[1:]),
                      (LINE, (CHAIN,), dict(RANKS))):
            self.check(EXAMPLE, value, False)

    def test_a_pair_left_out(self):
        for at in range(len(RANKS)):
            self.check(EXAMPLE, (LINE, (CHAIN,), RANKS[:at] + RANKS[at + 1:]), False)
        self.check(EXAMPLE, (LINE, (CHAIN,), ()), False)

    def test_a_pair_twice(self):
        for pair in RANKS:
            for rank in (pair[1], 0, 1, 4):
                self.check(EXAMPLE, (LINE, (CHAIN,), RANKS + ((pair[0], rank),)), False)
                self.check(EXAMPLE, (LINE, (CHAIN,), ((pair[0], rank),) + RANKS), False)

    def test_a_pair_of_another_length(self):
        for pair in ((), ((0,),), ((0,), 4, 4), ((0,), 4, ()), (0, 4), ((0,), (4,)), (4, (0,))):
            self.check(EXAMPLE, (LINE, (CHAIN,), (pair,) + RANKS[1:]), False)

    def test_a_state_too_long_too_short_or_out_of_range(self):
        for state in ((), (0, 0), (5,), (-1,), (4, 0), (10 ** 30,), ((0,),), ('0',), (None,), 0, 'a', None):
            for rank in (0, 1, 4):
                self.check(EXAMPLE, (LINE, (CHAIN,), RANKS + ((state, rank),)), False)
            self.check(EXAMPLE, (LINE, (CHAIN,), RANKS[:4] + ((state, 0),)), False)

    def test_a_value_of_another_length(self):
        for value in ((), RIGHT[:1], RIGHT[:2], RIGHT + ((),), RIGHT + (RANKS,), (RIGHT,), RIGHT[::-1]):
            self.check(EXAMPLE, value, False)

    def test_a_chain_that_is_none(self):
        for chain in ((), ('one', 'cee'), CHAIN[::-1], CHAIN + ('one',), ('one', 'one'), ('zz',), CHAIN[:1] * 2,
                      ('one', 'two', 'dee'), list(CHAIN), 'one', ('a', 'b', 'a', 'b'), None):
            self.check(EXAMPLE, (LINE, (chain,), RANKS), False)
            self.check(EXAMPLE, (LINE, (CHAIN, chain), tuple((state * 2, rank) for state, rank in RANKS)), False)
            self.check(EXAMPLE, (LINE, (chain,), ()), False)

    def test_a_chain_that_does_not_show_enough(self):
        for chain in (('one',), ('one', 'two', 'cee'), ('two', 'cee', 'dee'), ('cee', 'dee')):
            ranks = tuple(ranks_of(EXAMPLE, [read_word(EXAMPLE, chain)]).items())
            self.check(EXAMPLE, (LINE, (chain,), ranks), False)
            self.check(EXAMPLE, (LINE, (chain,), RANKS), False)
        self.check(EXAMPLE, (LINE, (), (((), 4),)), False)
        self.check(EXAMPLE, (LINE, (), (((), 0),)), False)

    def test_a_chain_more_than_once(self):
        for times in (2, 3, 9):
            ranks = tuple((state * times, rank) for state, rank in RANKS)
            self.check(EXAMPLE, (LINE, (CHAIN,) * times, ranks), True)
            self.check(EXAMPLE, (LINE, (CHAIN,) * times, ranks[:-1]), False)
            self.check(EXAMPLE, (LINE, (CHAIN,) * times, RANKS), False)

    def test_more_chains_than_are_needed(self):
        for archives in (EXAMPLE, RING, rows_of(('ab', 'ba'))):
            proof = read_chains(archives)
            ranks = tuple(ranks_of(archives, [read_word(archives, chain) for chain in proof]).items())
            self.check(archives, (shortest_line(Library(archives)), proof, ranks), True)
            self.check(archives, (shortest_line(Library(archives)), proof[::-1], ranks), False)

    def test_a_line_that_does_not_serve_or_is_none(self):
        for line in ((), ('a',), ('a', 'b', 'a'), ('b', 'a', 'b', 'a'), ('a', 'a', 'b', 'b'), ('a', 'b', 'a', 'c'),
                     list(LINE), 'abab', (('a', 'b'),) * 4, ('a', 'b', ('a', 'b'), 'a'), None, ('a', 'b', 'a', None)):
            self.check(EXAMPLE, (line, (CHAIN,), RANKS), False)

    def test_a_line_that_is_longer(self):
        for length in (5, 6, 7):
            for line in plain_lines(EXAMPLE, length):
                self.check(EXAMPLE, (line, (CHAIN,), RANKS), False)
                self.check(EXAMPLE, (line, (CHAIN,), (((0,), length),) + RANKS[1:]), False)
                raised = tuple((state, rank + length - 4) for state, rank in RANKS)
                self.check(EXAMPLE, (line, (CHAIN,), raised), False)
        for line in (LINE * 50, LINE * 50 + ('a',)):
            self.check(EXAMPLE, (line, (CHAIN,), (((0,), len(line)),) + RANKS[1:]), False)

    def test_a_group_makes_a_line_shorter_but_is_not_allowed(self):
        ranks = (((0,), 1), ((1,), 0))
        self.assertIs(reads_as_serving(EXAMPLE, (('a', 'b'),)), True)
        self.check(EXAMPLE, ((('a', 'b'),), (CHAIN,), ranks), False)

    def test_another_line_of_the_same_length(self):
        archives = rows_of(('ab', 'c'))
        proof = (('m0x0', 'm0x1'), ('m1x0',))
        ranks = tuple(ranks_of(archives, [tuple('ab'), tuple('c')]).items())
        for line in plain_lines(archives, 3):
            self.check(archives, (line, proof, ranks), line in (tuple('abc'), tuple('acb'), tuple('cab')))

    def test_states_that_need_not_be_there(self):
        archives = rows_of(('ab', 'b'))
        proof = (('m0x0', 'm0x1'), ('m1x0',))
        ranks = ranks_of(archives, [tuple('ab'), tuple('b')])
        line = ('a', 'b')
        self.check(archives, (line, proof, tuple(ranks.items())), True)
        self.assertNotIn((2, 0), ranks)
        for rank, expected in ((0, True), (1, True), (2, False), (3, False)):
            self.check(archives, (line, proof, tuple(ranks.items()) + (((2, 0), rank),)), expected)

    def test_a_rank_may_be_less_than_the_distance(self):
        # From the state in which only the b is read it takes two archives more, but one is enough to be shown.
        archives = rows_of(('ab', 'b'))
        proof = (('m0x0', 'm0x1'), ('m1x0',))
        for rank, expected in ((0, False), (1, True), (2, True), (3, False)):
            ranks = ranks_of(archives, [tuple('ab'), tuple('b')])
            ranks[(0, 1)] = rank
            self.check(archives, (('a', 'b'), proof, tuple(ranks.items())), expected)

    def test_libraries_without_words(self):
        for archives in ((), EMPTY):
            self.check(archives, ((), (), (((), 0),)), True)
            for value in (((), (), ()), ((), (), (((), 1),)), ((), (), (((), False),)), ((), (), (((), 0), ((), 0))),
                          ((), ((),), (((), 0),)), ((), (), (((0,), 0),)), (('a',), (), (((), 1),)),
                          (('a',), (), (((), 0),))):
                self.check(archives, value, False)

    def test_an_archive_without_members_leads_nowhere(self):
        archives = rows_of(('b',), 'ac')
        self.check(archives, (('b',), (('m0x0',),), (((0,), 1), ((1,), 0))), True)
        self.check(archives, (('a', 'b'), (('m0x0',),), (((0,), 2), ((1,), 1))), False)
        self.check(archives, (('a', 'b'), (('m0x0',),), (((0,), 2), ((1,), 0))), False)

    def test_every_table_of_ranks_over_one_chain(self):
        """Of all lines of up to three items and all ranks up to three, only those of length two are shown."""
        archives = rows_of(('ab',))
        accepted = []
        lines = [line for length in range(4) for line in plain_lines(archives, length)]
        for line, numbers in itertools.product(lines, itertools.product((None, 0, 1, 2, 3), repeat=3)):
            ranks = tuple(((at,), rank) for at, rank in enumerate(numbers) if rank is not None)
            if self.check(archives, (line, (('m0x0', 'm0x1'),), ranks)):
                accepted.append((line, numbers))
        self.assertEqual(accepted, [(('a', 'b'), (2, 1, 0))])


class OtherLengthsTest(unittest.TestCase):
    """No certificate with another length of line is accepted, however its ranks are chosen."""

    def test_tables_that_a_random_source_changes(self):
        accepted = 0
        for seed in range(60):
            archives, source = sample_archives(seed), random.Random(seed)
            library = Library(archives)
            line, proof, ranks = certificate(library)
            names = library.names()
            for _ in range(40 if names and len(ranks) < 100 else 0):
                other = list(line)
                for _ in range(source.randint(0, 2)):
                    other.insert(source.randint(0, len(other)), source.choice(names))
                changed = dict(ranks)
                for state in source.sample(sorted(changed), source.randint(0, min(2, len(changed)))):
                    changed[state] = max(0, changed[state] + source.choice((-1, 1)))
                changed[(0,) * len(proof)] = source.choice((len(other), len(line)))
                value = (tuple(other), proof, tuple(changed.items()))
                result = shows_shortest(library, value)
                self.assertIs(result, reads_as_certificate(archives, value))
                if result:
                    self.assertEqual(len(other), len(line))
                    accepted += 1
        self.assertGreater(accepted, 100)

    def test_ranks_that_grow_with_the_line(self):
        for seed in range(60):
            archives = sample_archives(seed)
            library = Library(archives)
            line, proof, ranks = certificate(library)
            if not library.names() or len(ranks) > 100:
                continue
            for more in (1, 2):
                longer = line + library.names()[:1] * more
                for value in ((longer, proof, ranks), (longer, proof, tuple((state, rank + more) for state, rank in ranks)),
                              (longer, proof, tuple((state, rank + more if rank else 0) for state, rank in ranks)),
                              (longer, proof, tuple((state, len(longer)) for state, rank in ranks))):
                    self.assertIs(shows_shortest(library, value), False)
            for at in range(len(line)):
                shorter = line[:at] + line[at + 1:]
                self.assertIs(shows_shortest(library, (shorter, proof, ranks)), False)
                lower = tuple((state, max(rank - 1, 0)) for state, rank in ranks)
                self.assertIs(shows_shortest(library, (shorter, proof, lower)), False)


class CertificateTest(unittest.TestCase):
    def check(self, archives):
        library = Library(archives)
        value = certificate(library)
        self.assertIs(reads_as_certificate(archives, value), True)
        self.assertIs(shows_shortest(library, value), True)
        self.assertTrue(only_tuples(value))
        every = read_words(archives)
        end = tuple(len(letters) for letters in every)
        self.assertEqual(value[0], read_lines(archives, every, (0,) * len(every))[end])
        self.assertEqual(value[0], shortest_line(library))
        return value

    def test_libraries_without_words(self):
        for archives in ((), EMPTY):
            self.assertEqual(self.check(archives), ((), (), (((), 0),)))

    def test_named_libraries(self):
        for archives in (EXAMPLE, RICH, RING, rows_of(('ab', 'ba')), rows_of(('abc', 'acb', 'cab')), rows_of(('b',), 'ac')):
            self.check(archives)

    def test_samples(self):
        for seed in range(120):
            self.check(sample_archives(seed))

    def test_the_certificate_of_another_library_is_refused(self):
        self.assertIs(shows_shortest(Library(EXAMPLE), certificate(Library(RING))), False)
        self.assertIs(shows_shortest(Library(RING), certificate(Library(EXAMPLE))), False)
        self.assertIs(shows_shortest(Library(rows_of(('ab', 'ba'))), certificate(Library(rows_of(('ab',))))), False)


class BoundsTest(unittest.TestCase):
    def test_five_thousand_states(self):
        library = Library(rows_of(ROWS_5000))
        value = certificate(library)
        self.assertIs(shows_shortest(library, value), True)
        self.assertIs(reads_as_certificate(rows_of(ROWS_5000), value), True)

    def test_more_than_five_thousand_states(self):
        archives = rows_of(ROWS_5001)
        library = Library(archives)
        with self.assertRaises(TooManyStates) as context:
            certificate(library)
        self.assertIs(type(context.exception), TooManyStates)
        # The checker does not mind them.
        for value in any_values():
            self.assertIs(shows_shortest(library, value), False)

    def test_a_certificate_for_a_library_with_too_many_states(self):
        archives = rows_of(ROWS_5001)
        every = read_words(archives)
        end = tuple(len(letters) for letters in every)
        line = read_lines(archives, every, (0,) * len(every))[end]
        proof = tuple(next(chain for chain in read_chains(archives) if read_word(archives, chain) == letters)
                      for letters in every)
        value = (line, proof, tuple(ranks_of(archives, every).items()))
        self.assertEqual(len(value[2]), 5001)
        self.assertIs(shows_shortest(Library(archives), value), True)
        self.assertIs(shows_shortest(Library(archives), (line, proof, value[2][:-1])), False)

    def test_a_thousand_chains(self):
        archives = layers_of(LAYERS_1000)
        members = tuple(sorted(member for _, members in archives for member in members))
        library = Library((('a', members),))
        self.assertIs(shows_shortest(library, (('a',), (('m0x0',),), (((0,), 1), ((1,), 0)))), True)
        self.assertIs(shows_shortest(library, certificate(library)), True)
        self.assertIs(shows_shortest(library, None), False)

    def test_more_than_a_thousand_chains(self):
        crowded = layers_of(LAYERS_1000, 1)
        members = tuple(sorted(member for _, members in crowded for member in members))
        right = (('a',), (('m0x0',),), (((0,), 1), ((1,), 0)))
        for archives in (crowded, layers_of(LAYERS_CROWDED), (('a', members),)):
            library = Library(archives)
            with self.assertRaises(TooManyChains) as context:
                certificate(library)
            self.assertIs(type(context.exception), TooManyChains)
            for value in any_values() + [right, RIGHT, ((), (), (((), 0),)), (library.names() * 25, (), ())]:
                with self.assertRaises(TooManyChains) as context:
                    shows_shortest(library, value)
                self.assertIs(type(context.exception), TooManyChains)


class ConventionsTest(unittest.TestCase):
    def test_arguments_by_name_in_any_order(self):
        library = Library(EXAMPLE)
        self.assertEqual(keyword_calls(shows_shortest, library=library, value=RIGHT), [True] * 2)
        self.assertEqual(keyword_calls(shows_shortest, library=library, value=[]), [False] * 2)
        self.assertEqual(keyword_calls(certificate, library=library), [certificate(library)])

    def test_equal_calls_return_equal_tuples_and_change_nothing(self):
        library, value = Library(copy.deepcopy(RING)), certificate(Library(RING))
        inside, before = repr(vars(library)), copy.deepcopy(value)
        for _ in range(3):
            self.assertTrue(same_value(certificate(library), value))
            self.assertIs(shows_shortest(library, value), True)
            self.assertTrue(same_value(value, before))
            self.assertEqual(repr(vars(library)), inside)


if __name__ == '__main__':
    unittest.main()

"""Points 14 to 17: signs, chains, ways and symbols of pieces, and the first pieces of a symbol."""

import unittest
from copy import deepcopy

from tests.helpers import (
    KINDS, Numbers, as_key, classes_by_changes, pieces_up_to, slow_changed, slow_chains, slow_pieces_at,
    slow_pieces_of, slow_signs, slow_symbol, slow_ways, small_forms, small_tables, unknowns_in,
)
from wordsquares.errors import InvalidSymbol
from wordsquares.pieces import is_pieces, sum_of, times, together
from wordsquares.splits import pieces_of
from wordsquares.symbols import (
    chains_of, is_symbol, pieces_of_symbol, plain_pieces, signs_of, symbol, symbol_of, ways_of,
)

GREAT = 10 ** 30 - 1


def many_pieces(many, seed):
    """Many lists of pieces: scales close together, further apart, and up to 1,000."""
    numbers = Numbers(seed)
    for _ in range(many):
        pieces = numbers.pieces(6, numbers.one_of((1, 2, 4, 7, 12)))
        more = numbers.one_of((0, 0, 3, 988))
        yield [(k + more, kind) for k, kind in pieces]


class SignsChainsWays(unittest.TestCase):

    def assert_told(self, pieces):
        self.assertEqual(signs_of(pieces), slow_signs(pieces), pieces)
        self.assertEqual(chains_of(pieces), slow_chains(pieces), pieces)
        self.assertEqual(ways_of(pieces), slow_ways(pieces), pieces)
        for k, unknowns, odd, sign in signs_of(pieces):
            self.assertEqual([type(item) for item in (k, unknowns, odd, sign)], [int, int, bool, int])

    def test_all_small_pieces(self):
        for pieces in pieces_up_to(5, 2) + pieces_up_to(4, 3):
            self.assert_told(pieces)

    def test_many_pieces(self):
        for pieces in many_pieces(1500, 201):
            self.assert_told(pieces)

    def test_written_ones(self):
        self.assertEqual([signs_of([]), chains_of([]), ways_of([])], [[], [], []])
        self.assertEqual(signs_of([(2, 0), (2, 2), (2, 3)]), [(2, 5, True, 1)])
        self.assertEqual(signs_of([(0, 0), (1, 2)]), [(0, 2, False, 1), (1, 2, False, -1)])
        self.assertEqual([signs_of([(0, kind)])[0][3] for kind in KINDS], [1, 1, -1, -1, -1, 1])
        self.assertEqual(chains_of([(1, 7), (1, 7), (2, 5), (4, 1), (6, 2)]), [(1, 3), (4, 1)])
        self.assertEqual(chains_of([(k, 7) for k in range(6)]), [(0, 2)])

    def test_ways_go_over_gaps_beside_odd_scales_alone(self):
        self.assertEqual(ways_of([(0, 1), (2, 1)]), [(0, 2)])
        self.assertEqual(ways_of([(0, 1), (3, 1)]), [(0, 0), (3, 3)])
        self.assertEqual(ways_of([(0, 1), (2, 0)]), [(0, 0), (2, 2)])
        self.assertEqual(ways_of([(0, 0), (2, 1)]), [(0, 0), (2, 2)])
        self.assertEqual(ways_of([(0, 0), (1, 1), (2, 0)]), [(0, 2)])
        self.assertEqual(ways_of([(0, 0), (1, 0), (2, 1)]), [(0, 0), (1, 2)])
        self.assertEqual(ways_of([(k, 1) for k in (1, 3, 5, 7, 9, 11)]), [(1, 11)])


class SymbolOf(unittest.TestCase):

    def test_all_small_pieces(self):
        for pieces in pieces_up_to(5, 2) + pieces_up_to(4, 3) + pieces_up_to(2, 4):
            for size in range(max(1, unknowns_in(pieces)), 7):
                self.assertEqual(symbol_of(pieces, size), slow_symbol(pieces, size), pieces)

    def test_many_pieces(self):
        for pieces in many_pieces(1500, 202):
            found = symbol_of(pieces, 6)
            self.assertEqual(found, slow_symbol(pieces, 6), pieces)
            self.assertIs(is_symbol(found), True)

    def test_at_most_the_least_sign_of_a_way_is_minus(self):
        for pieces in many_pieces(600, 203):
            least = [first for first, _ in ways_of(pieces)]
            self.assertFalse([k for k, _, _, sign in symbol_of(pieces, 6)[0] if sign == -1 and k not in least])

    def test_steps_of_a_walk(self):
        # Over an empty number 4 is added to both chains, within a chain once, beside an even scale once.
        self.assertEqual(symbol_of([(0, 1), (2, 3)], 2)[1], [(0, 5), (2, 7)])
        self.assertEqual(symbol_of([(0, 1), (1, 3)], 2)[1], [(0, 0)])
        self.assertEqual(symbol_of([(0, 1), (1, 2)], 3)[1], [(0, 5)])
        self.assertEqual(symbol_of([(0, 0), (1, 3)], 3)[1], [(1, 7)])
        self.assertEqual(symbol_of([(0, 1), (1, 0), (2, 3)], 4)[1], [(0, 5), (2, 7)])
        self.assertEqual(symbol_of([(0, 1), (3, 3)], 2), ([(0, 1, True, 1), (3, 1, True, -1)], [(0, 1), (3, 3)], 0))
        self.assertEqual(symbol_of([(0, 1), (1, 3), (2, 3)], 4), (
            [(0, 1, True, 1), (1, 1, True, 1), (2, 1, True, 1)], [(0, 3)], 1))

    def test_scales_without_a_bound(self):
        far = 10 ** 29
        self.assertEqual(symbol_of([(0, 3), (far, 5), (far + 2, 5)], 3), (
            [(0, 1, True, -1), (far, 1, True, 1), (far + 2, 1, True, 1)], [(0, 3), (far, 1), (far + 2, 1)], 0))


class SymbolsOfForms(unittest.TestCase):

    def test_they_are_those_of_the_pieces(self):
        numbers = Numbers(211)
        forms = list(small_forms(1, -20, 20)) + list(small_forms(2, -4, 5)) + list(small_forms(3, -1, 1))
        forms += [numbers.form(at % 6 + 1, numbers.one_of((1, 3, 40, GREAT))) for at in range(600)]
        for form in forms:
            found = symbol(form)
            self.assertEqual(found, slow_symbol(slow_pieces_of(form), len(form)), form)
            self.assertEqual(sum(scale[1] for scale in found[0]) + found[2], len(form))

    def test_changes_do_not_change_them(self):
        numbers = Numbers(212)
        for at in range(1500):
            size = at % 6 + 1
            form = numbers.form(size, numbers.one_of((1, 2, 9, GREAT)))
            if at % 2:
                form = sum_of(numbers.pieces(size, numbers.one_of((2, 4, 8))), size)
            change = numbers.change(size, numbers.one_of((1, 2, 20)))
            self.assertEqual(symbol(slow_changed(form, change)), symbol(form), (form, change))

    def test_pieces_of_another_way_have_the_same_one(self):
        # At a great width the told way of a changed form begins with other items, and takes other pieces.
        numbers = Numbers(213)
        unlike = 0
        for at in range(500):
            size = at % 5 + 2
            form = sum_of(numbers.pieces(size, 4), size)
            other = slow_pieces_at(40, slow_changed(form, numbers.change(size, 3)))
            self.assertEqual(symbol_of(other, size), symbol(form))
            unlike += other != pieces_of(form)
        self.assertGreater(unlike, 80)

    def test_equal_exactly_for_alike_forms(self):
        # Pieces with scales to width - 4 are all told at the width: so changes part them just as symbols do.
        for width, size in ((4, 1), (6, 1), (4, 2), (5, 2)):
            numbers = classes_by_changes(width, size)
            told = {}
            for pieces in pieces_up_to(width - 3, size) + pieces_up_to(width - 2, size, (1, 3, 5, 7)):
                form = sum_of(pieces, size)
                told.setdefault(as_key(symbol(form)), set()).add(numbers[as_key(form)])
            self.assertEqual([len(some) for some in told.values()], [1] * len(told))
            self.assertEqual(len({number for some in told.values() for number in some}), len(told))

    def test_the_symbol_of_a_sum_hangs_on_the_symbols_alone(self):
        small = pieces_up_to(3, 2)
        like = {}
        for pieces in small:
            like.setdefault(as_key(symbol_of(pieces, 2)), []).append(pieces)
        groups = [group for group in like.values() if len(group) > 1]
        self.assertGreater(len(groups), 5)
        for group in groups:
            for other in small[::5]:
                self.assertEqual(len({as_key(symbol_of(together(one, other), 4)) for one in group}), 1)

    def test_multiplied_forms(self):
        numbers = Numbers(214)
        for at in range(500):
            size = at % 6 + 1
            form = sum_of(numbers.pieces(size, 6), size)
            odd = 2 * numbers.between(-20, 20) + 1
            self.assertEqual(symbol([[odd * item for item in row] for row in form]),
                             symbol_of(times(pieces_of(form), odd), size))
            scales, chains, noughts = symbol(form)
            greater = [(scale[0] + 1,) + scale[1:] for scale in scales]
            self.assertEqual(symbol([[2 * item for item in row] for row in form]),
                             (greater, [(k + 1, total) for k, total in chains], noughts))


class IsSymbol(unittest.TestCase):

    def bent(self, value):
        """What a symbol becomes when it is bent at one place."""
        scales, chains, noughts = value
        yield from [list(value), value[:2], value + (0,), (tuple(scales), chains, noughts), (scales, tuple(chains), noughts)]
        yield from [(scales, chains, wrong) for wrong in (noughts + 7, -1, None, "0", True, False, [noughts])]
        yield from [(chains, scales + [1], noughts), (scales, chains + [(10 ** 9, 1)], noughts), (scales + [(10 ** 9, 1, True, 1)], chains, noughts)]
        yield from [(None, chains, noughts), (scales, None, noughts), (scales + [None], chains, noughts), (scales, chains + [None], noughts)]
        for at, (k, unknowns, odd, sign) in enumerate(scales):
            for wrong in (
                [k, unknowns, odd, sign], (k, unknowns, odd), (k, unknowns, odd, sign, 1), (k, unknowns, int(odd), sign),
                (k, unknowns, odd, True), (k, unknowns, odd, 0), (k, unknowns, odd, 3),
                (k, unknowns, odd, None), (k, unknowns, None, sign), (-1 - k, unknowns, odd, sign), (None, unknowns, odd, sign),
                (bool(k), unknowns, odd, sign), (k, True, odd, sign), (k, 0, odd, sign), (k, -1, odd, sign),
                (k, unknowns + 7, odd, sign), (k, "1", odd, sign), (str(k), unknowns, odd, sign),
            ):
                yield scales[:at] + [wrong] + scales[at + 1:], chains, noughts
            yield scales[:at] + scales[at:at + 1] + scales[at:], chains, noughts
            yield scales[::-1] + scales[:1], chains, noughts
        for at, (k, total) in enumerate(chains):
            for wrong in (
                [k, total], (k,), (k, total, 0), (k, total + 8), (k, total - 8), (k, total + 1), (k + 1, total), (k, None),
                (None, total), (k, True), (k, False), (bool(k), total), (k, str(total)),
            ):
                yield scales, chains[:at] + [wrong] + chains[at + 1:], noughts
            yield scales, chains[:at] + chains[at + 1:], noughts
            yield scales, chains[:at] + chains[at:at + 1] + chains[at:], noughts

    def test_bent_ones_are_none(self):
        many = 0
        for pieces in list(many_pieces(40, 221)) + pieces_up_to(2, 2):
            value = symbol_of(pieces, 6)
            for wrong in self.bent(value):
                self.assertIs(is_symbol(wrong), False, (value, wrong))
                with self.assertRaises(InvalidSymbol) as told:
                    pieces_of_symbol(wrong)
                self.assertIs(told.exception.value, wrong)
                many += 1
            self.assertIs(is_symbol(deepcopy(value)), True)
        self.assertGreater(many, 3000)

    def test_small_values_are_symbols_exactly_if_some_pieces_have_them(self):
        there = {as_key(slow_symbol(pieces, 3)) for pieces in pieces_up_to(3, 3)}
        yes = 0
        for layout in {as_key([scale[:3] for scale in slow_signs(pieces)]) for pieces in pieces_up_to(3, 3)}:
            chains = [k for k, _, odd in layout if odd and (k - 1) not in [other for other, _, some in layout if some]]
            noughts = 3 - sum(scale[1] for scale in layout)
            for signs in range(2 ** len(layout)):
                for sums in range(8 ** len(chains)):
                    scales = [scale + (-1 if signs >> at & 1 else 1,) for at, scale in enumerate(layout)]
                    value = (scales, [(k, sums // 8 ** at % 8) for at, k in enumerate(chains)], noughts)
                    self.assertIs(is_symbol(value), as_key(value) in there, value)
                    yes += as_key(value) in there
        self.assertEqual(yes, len(there))

    def test_signs_and_sums_that_no_squares_have(self):
        for kind in (1, 3, 5, 7):
            for total in range(-1, 9):
                for sign in (-1, 1):
                    right = total in (1, 3, 5, 7) and sign == (1 if total in (1, 7) else -1)
                    self.assertIs(is_symbol(([(kind, 1, True, sign)], [(kind, total)], 2)), right)
        self.assertIs(is_symbol(([(0, 2, True, 1)], [(0, 4)], 0)), False)
        self.assertIs(is_symbol(([(0, 2, True, -1)], [(0, 0)], 0)), False)
        self.assertIs(is_symbol(([(0, 3, False, 1)], [], 0)), False)
        self.assertIs(is_symbol(([(0, 2, False, 1)], [(0, 0)], 0)), False)
        self.assertIs(is_symbol(([(0, 2, True, 1)], [], 0)), False)
        self.assertIs(is_symbol(([(0, 2, True, 1)], [(0, 0)], 0)), True)

    def test_unknowns_and_noughts_are_one_to_six(self):
        self.assertIs(is_symbol(([], [], 0)), False)
        for noughts in range(1, 9):
            self.assertIs(is_symbol(([], [], noughts)), noughts <= 6)
            self.assertIs(is_symbol(([(9, 2, False, -1)], [], noughts)), noughts <= 4)


class FirstPieces(unittest.TestCase):

    def test_first_of_all_small_pieces(self):
        for scales, size in ((3, 3), (2, 4), (6, 2)):
            first = {}
            for pieces in pieces_up_to(scales, size):
                first.setdefault(as_key(slow_symbol(pieces, 4)), pieces)
            for pieces in pieces_up_to(scales, size):
                value = symbol_of(pieces, 4)
                self.assertEqual(pieces_of_symbol(value), first[as_key(value)])
                self.assertEqual(plain_pieces(sum_of(pieces, 4)), first[as_key(value)])

    def test_they_have_the_symbol_and_are_told_again(self):
        for pieces in many_pieces(200, 231):
            value = symbol_of(pieces, 6)
            found = pieces_of_symbol(value)
            self.assertTrue(is_pieces(found) and found <= pieces)
            self.assertEqual(symbol_of(found, 6), value)
            self.assertEqual(pieces_of_symbol(symbol_of(found, 6)), found)

    def test_plain_pieces_are_the_same_exactly_for_alike_forms(self):
        numbers = Numbers(232)
        for at in range(300):
            size = at % 6 + 1
            form = numbers.form(size, numbers.one_of((1, 3, GREAT)))
            if at % 2:
                form = sum_of(numbers.pieces(size, 5), size)
            other = slow_changed(form, numbers.change(size, 2))
            self.assertEqual(plain_pieces(form), plain_pieces(other))
            self.assertEqual(symbol(sum_of(plain_pieces(form), size)), symbol(form))
        forms = [form for form in small_tables(3, 2)] + list(small_forms(2, -3, 3))
        for one in forms[::5]:
            for other in forms[::11]:
                self.assertIs(plain_pieces(one) == plain_pieces(other), symbol(one) == symbol(other))

    def test_results_are_new(self):
        value = symbol_of([(0, 3), (1, 5), (3, 7)], 4)
        before = deepcopy(value)
        pieces_of_symbol(value).append((9, 1))
        symbol([[3]])[0].append(None)
        self.assertEqual(value, before)
        self.assertEqual(pieces_of_symbol(value), [(0, 3), (1, 1), (3, 3)])


if __name__ == "__main__":
    unittest.main()

"""Point 29: exchanges and roads."""

import unittest
from itertools import combinations, combinations_with_replacement

from tests.helpers import Numbers, as_key, pieces_up_to, rows_of, slow_symbol, unknowns_in
from wordsquares.alike import are_alike
from wordsquares.pieces import is_pieces
from wordsquares.roads import exchanged, is_road, road

ODD = (1, 3, 5, 7)


def all_puts(taken):
    """All that the words of point 29 let be put for some pieces."""
    if len(taken) == 2:
        (i, a), (j, b) = taken
        if a % 2 and b % 2:
            if i < j <= i + 2:
                c = (a + 2 ** (j - i) * b) % 8
                yield [(i, c), (j, a * b * c % 8)]
            if i == j:
                yield [(i, (a + 4) % 8), (j, (b + 4) % 8)]
        elif a % 2 + b % 2 == 1 and abs(i - j) == 1:
            yield [(i, (a + 4) % 8 if a % 2 else 2 - a), (j, (b + 4) % 8 if b % 2 else 2 - b)]
        elif a % 2 + b % 2 == 1 and i == j:
            square = a if a % 2 else b
            for kinds in combinations_with_replacement(ODD, 3):
                if sum(kinds) % 8 == square and sum(kind in (2, 3, 5) for kind in kinds + (a, b)) % 2 == 0:
                    yield [(i, kind) for kind in kinds]
        elif i == j and a == b:
            yield [(i, 2 - a)] * 2
    elif len({k for k, _ in taken}) == 1 and all(kind % 2 for _, kind in taken):
        kinds = [kind for _, kind in taken]
        for pair in (0, 2):
            square = sum(kinds) % 8
            if sum(kind in (2, 3, 5) for kind in kinds + [square, pair]) % 2 == 0:
                yield [(taken[0][0], square), (taken[0][0], pair)]


def slow_exchanged(pieces):
    found = set()
    for many in (2, 3):
        for places in combinations(range(len(pieces)), many):
            rest = [piece for at, piece in enumerate(pieces) if at not in places]
            for put in all_puts([pieces[at] for at in places]):
                found.add(tuple(sorted(rest + put)))
    return [list(some) for some in sorted(found) if list(some) != pieces]


def reached_from(pieces):
    """The dict of all lists that exchanges lead to from a list, and the fewest exchanges that do."""
    steps = {tuple(pieces): 0}
    last = [pieces]
    while last:
        further = []
        for ahead in last:
            for some in slow_exchanged(ahead):
                if tuple(some) not in steps:
                    steps[tuple(some)] = steps[tuple(ahead)] + 1
                    further.append(some)
        last = further
    return steps


class Exchanged(unittest.TestCase):

    def test_all_small_pieces(self):
        for pieces in pieces_up_to(4, 3) + pieces_up_to(2, 4):
            self.assertEqual(exchanged(pieces), slow_exchanged(pieces), pieces)

    def test_many_pieces(self):
        numbers = Numbers(801)
        for _ in range(800):
            more = numbers.one_of((0, 994, 10 ** 20))
            pieces = [(k + more, kind) for k, kind in numbers.pieces(6, numbers.one_of((1, 2, 3, 5)))]
            found = exchanged(pieces)
            self.assertEqual(found, slow_exchanged(pieces), pieces)
            self.assertTrue(all(is_pieces(some) and unknowns_in(some) == unknowns_in(pieces) for some in found))
            self.assertNotIn(pieces, found)

    def test_the_sums_are_alike_at_every_width(self):
        for pieces in pieces_up_to(4, 3)[::3] + pieces_up_to(2, 4)[::5]:
            for some in exchanged(pieces):
                self.assertIs(are_alike(rows_of(pieces, 4), rows_of(some, 4)), True)
                self.assertIn(pieces, exchanged(some))

    def test_written_ones(self):
        self.assertEqual([exchanged(pieces) for pieces in ([], [(3, 0)], [(3, 0), (3, 2)], [(0, 1), (3, 1)])], [[]] * 4)
        self.assertEqual(exchanged([(0, 1), (2, 1)]), [[(0, 5), (2, 5)]])
        self.assertEqual(exchanged([(0, 1), (0, 5)]), [])
        self.assertEqual(exchanged([(0, 0), (1, 1)]), [[(0, 2), (1, 5)]])
        self.assertEqual(exchanged([(0, 3), (1, 2)]), [[(0, 7), (1, 0)]])
        self.assertEqual(exchanged([(0, 0), (2, 1)]), [])
        self.assertEqual(exchanged([(0, 2), (0, 2), (0, 2)]), [[(0, 0), (0, 0), (0, 2)]])


class Roads(unittest.TestCase):

    def assert_road(self, one, other, steps):
        found = road(one, other)
        self.assertEqual([len(found) - 1, found[0], found[-1]], [steps, one, other])
        for ahead, some in zip(found, found[1:]):
            self.assertIn(some, slow_exchanged(ahead))
        self.assertIs(is_road(one, other, found), True)
        self.assertIs(is_road(other, one, found[::-1]), True)

    def test_there_is_a_shortest_one_exactly_if_exchanges_lead_there(self):
        for some in (pieces_up_to(3, 2), [pieces for pieces in pieces_up_to(2, 4) if unknowns_in(pieces) == 4][::3]):
            for one in some[::2]:
                steps = reached_from(one)
                for other in some:
                    if tuple(other) in steps:
                        self.assert_road(one, other, steps[tuple(other)])
                    else:
                        self.assertIsNone(road(one, other))

    def test_exactly_if_the_sums_are_alike(self):
        # With the same symbol means alike: all lists with one symbol are reached from each of them.
        for scales, size in ((5, 2), (4, 3), (2, 4)):
            some = [pieces for pieces in pieces_up_to(scales, size) if unknowns_in(pieces) == size]
            like = {}
            for pieces in some:
                like.setdefault(as_key(slow_symbol(pieces, size)), set()).add(tuple(pieces))
            for group in like.values():
                self.assertEqual(set(reached_from(list(min(group)))), group)
            for one in some[::40]:
                for other in some[::15]:
                    self.assertIs(road(one, other) is not None, are_alike(rows_of(one, size), rows_of(other, size)))

    def test_six_unknowns(self):
        numbers = Numbers(811)
        for scales in (list(range(6)), [0, 0, 1, 1, 2, 2], [0, 0, 0, 1, 2, 3], [0, 1, 3, 4, 6, 7], [5] * 6):
            one = sorted((k, 7) for k in scales)
            steps = reached_from(one)
            self.assertGreater(len(steps), 8)
            lists = sorted(steps)
            for _ in range(6):
                other = list(numbers.one_of(lists))
                self.assert_road(one, other, steps[tuple(other)])
            far = max(lists, key=lambda some: steps[some])
            self.assert_road(one, list(far), steps[far])
            self.assert_road(list(far), one, steps[far])
            for wrong in (sorted((k, 1) for k in scales), one[:-1], one[:-1] + [(50, 7)], []):
                self.assertIs(road(one, wrong) is None, tuple(wrong) not in steps)

    def test_the_same_list(self):
        for pieces in pieces_up_to(2, 3)[::9]:
            self.assertEqual(road(pieces, list(pieces)), [pieces])
            found = road(pieces, pieces)
            self.assertIsNot(found[0], pieces)

    def test_sums_with_as_many_unknowns_are_meant(self):
        self.assertIsNone(road([], [(0, 1)]))
        self.assertIsNone(road([(0, 1)], [(0, 1), (3, 1)]))
        self.assertIsNone(road([(0, 0)], [(0, 1), (0, 7)]))


class IsRoad(unittest.TestCase):

    def test_longer_ones(self):
        one, other = [(0, 1), (1, 1), (2, 1)], [(0, 3), (1, 3), (2, 1)]
        there = road(one, other)
        self.assertIs(is_road(one, other, there + there[::-1][1:] + there[1:]), True)
        self.assertIs(is_road(one, one, there + there[::-1][1:]), True)
        self.assertIs(is_road(one, one, [one]), True)
        # A list is not among its own exchanged ones.
        self.assertIs(is_road(one, one, [one, one]), False)
        self.assertIs(is_road(one, other, there + there[1:]), False)

    def test_small_values(self):
        some = pieces_up_to(2, 2)
        for one in some:
            for other in some:
                self.assertIs(is_road(one, other, [one, other]), other in slow_exchanged(one))
                self.assertIs(is_road(one, other, [one]), one == other)
                self.assertIs(is_road(one, other, [other, one]), one == other and one in slow_exchanged(one))

    def test_what_is_none(self):
        one, other = [(0, 1), (1, 1)], [(0, 3), (1, 3)]
        right = [one, other]
        self.assertIs(is_road(one, other, right), True)
        for wrong in (
            None, True, 0, "", "road", (), [], {}, {0: one}, tuple(right), [one], [other], [one, one], [other, one],
            [one, other, one], [tuple(one), other], [one, tuple(other)], [one, None], [one, None, other], one,
            [one, [(0, 3), (1, 5)]], [one, [[0, 3], [1, 3]]], [[(False, True), (1, 1)], other], [one, [], other],
            [one, [(0, 3), (True, 3)]], [[(0, True), (1, 1)], other], [one, [(1, 3), (0, 3)]], [one, other, other],
        ):
            self.assertIs(is_road(one, other, wrong), False, wrong)


if __name__ == "__main__":
    unittest.main()

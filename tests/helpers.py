"""Inputs that the tests make by themselves, and slow ways to the same results, close to the document's words."""

from fractions import Fraction
from functools import lru_cache
from itertools import permutations, product

KINDS = (0, 1, 2, 3, 5, 7)


class Numbers:
    """A row of numbers that is the same in each run."""

    def __init__(self, seed):
        self.state = seed * 2654435761 % 2 ** 64

    def below(self, bound):
        """A count below a bound."""
        many = 0
        for _ in range(4):
            self.state = (self.state * 6364136223846793005 + 1442695040888963407) % 2 ** 64
            many = (many << 32) + (self.state >> 32)
        return many % bound

    def between(self, low, high):
        return low + self.below(high - low + 1)

    def one_of(self, values):
        return values[self.below(len(values))]

    def form(self, size, most):
        """A form with items from -most to most, some of them with many twos, often few odd ones on the diagonal."""
        style = self.below(4)
        rows = [[0] * size for _ in range(size)]
        for i in range(size):
            for j in range(i, size):
                item = self.between(-most, most)
                if style == 1 or style == 2 and i == j:
                    item = item << self.below(5)
                elif style == 3 and i == j:
                    item = 2 * item
                rows[i][j] = rows[j][i] = item
        return rows

    def change(self, size, most):
        """A change: odd numbers and noughts below them, with rows added to one another and swapped."""
        rows = [[self.between(-most, most) if j > i else 0 for j in range(size)] for i in range(size)]
        for i in range(size):
            rows[i][i] = 2 * self.between(-most, most) + 1
        for _ in range(size):
            one, other, many = self.below(size), self.below(size), self.between(-most, most)
            if one != other:
                rows[one] = [item + many * more for item, more in zip(rows[one], rows[other])]
                rows[one], rows[other] = rows[other], rows[one]
        return rows

    def words(self, width, size):
        return [self.below(2 ** width) for _ in range(size)]

    def pieces(self, size, scales):
        """Pieces of at most so many unknowns."""
        found = []
        left = self.between(0, size)
        while left > 0:
            kind = self.one_of(KINDS if left > 1 else KINDS[1:2] + KINDS[3:])
            found.append((self.below(scales), kind))
            left -= 1 if kind % 2 else 2
        return sorted(found)


def small_tables(width, size):
    """All forms that are their own table at a width."""
    places = [(i, j) for i in range(size) for j in range(i, size)]
    sides = [range(2 ** width if i == j else 2 ** (width - 1)) for i, j in places]
    for items in product(*sides):
        rows = [[0] * size for _ in range(size)]
        for (i, j), item in zip(places, items):
            rows[i][j] = rows[j][i] = item
        yield rows


def small_forms(size, low, high):
    """All forms with items from low to high."""
    places = [(i, j) for i in range(size) for j in range(i, size)]
    for items in product(range(low, high + 1), repeat=len(places)):
        rows = [[0] * size for _ in range(size)]
        for (i, j), item in zip(places, items):
            rows[i][j] = rows[j][i] = item
        yield rows


def all_words(width, size):
    """All lists of words, in order."""
    return [list(words) for words in product(range(2 ** width), repeat=size)]


def slow_value(width, form, words):
    total = 0
    for i in range(len(form)):
        for j in range(len(form)):
            total += form[i][j] * words[i] * words[j]
    return total % 2 ** width


def slow_table(width, form):
    table = []
    for i, row in enumerate(form):
        table.append([item % 2 ** width if i == j else item % 2 ** (width - 1) for j, item in enumerate(row)])
    return table


def slow_changed(form, change):
    size = len(form)
    return [
        [
            sum(change[a][i] * form[a][b] * change[b][j] for a in range(size) for b in range(size))
            for j in range(size)
        ]
        for i in range(size)
    ]


def slow_determinant(rows):
    total = 0
    size = len(rows)
    for order in permutations(range(size)):
        term = 1
        for i in range(size):
            term *= rows[i][order[i]]
            for j in range(i):
                if order[j] > order[i]:
                    term = -term
        total += term
    return total


def slow_rank(rows):
    left = [[Fraction(item) for item in row] for row in rows]
    rank = 0
    for at in range(len(rows)):
        found = [row for row in left if row[at] != 0]
        if found:
            first = found[0]
            left = [row for row in left if row is not first]
            left = [[item - row[at] / first[at] * top for item, top in zip(row, first)] for row in left]
            rank += 1
    return rank


def twos(number):
    """How often 2 divides a fraction with an odd denominator that is not 0."""
    many = 0
    number = Fraction(number).numerator
    while number % 2 == 0:
        number //= 2
        many += 1
    return many


def by_eight(number):
    """The rest of an odd fraction by 8."""
    number = Fraction(number)
    return number.numerator * number.denominator % 8


def fewest(items, unknowns):
    """The tuple (k, places) of the items with the fewest twos: the diagonal, then the others in order."""
    some = [twos(item) for item in items.values() if item != 0]
    if not some:
        return None
    k = min(some)
    for i in unknowns:
        if items[i, i] != 0 and twos(items[i, i]) == k:
            return k, [i]
    for i in unknowns:
        for j in unknowns:
            if i < j and items[i, j] != 0 and twos(items[i, j]) == k:
                return k, [i, j]


def slow_pieces_at(width, form):
    """The told way at a width, word by word."""
    whole, half = 2 ** width, 2 ** (width - 1)
    unknowns = list(range(len(form)))
    items = {(a, b): form[a][b] % (whole if a == b else half) for a in unknowns for b in unknowns}
    found = []
    while fewest(items, unknowns):
        k, places = fewest(items, unknowns)
        rest = [a for a in unknowns if a not in places]
        less = {}
        if len(places) == 1:
            i = places[0]
            u = items[i, i] // 2 ** k
            found.append((k, u % min(8, 2 ** (width - k))))
            word = pow(u, -1, whole)
            for a in rest:
                for b in rest:
                    less[a, b] = items[a, i] * items[b, i] // 2 ** k * word
        else:
            i, j = places
            p, q, r = items[i, i], items[i, j], items[j, j]
            odd = (p * r - q * q) // 4 ** k
            found.append((k, {7: 0, 3: 2}[odd % 8]))
            word = pow(odd, -1, whole)
            for a in rest:
                for b in rest:
                    e, f, g, h = items[a, i], items[a, j], items[b, i], items[b, j]
                    less[a, b] = (r * e * g - q * (e * h + f * g) + p * f * h) // 4 ** k * word
        items = {(a, b): (items[a, b] - less[a, b]) % (whole if a == b else half) for a in rest for b in rest}
        unknowns = rest
    return sorted(found)


def slow_pieces_of(form):
    """The told way without a width, with fractions."""
    unknowns = list(range(len(form)))
    items = {(a, b): Fraction(form[a][b]) for a in unknowns for b in unknowns}
    found = []
    while fewest(items, unknowns):
        k, places = fewest(items, unknowns)
        rest = [a for a in unknowns if a not in places]
        if len(places) == 1:
            i = places[0]
            found.append((k, by_eight(items[i, i] / 2 ** k)))
            items = {(a, b): items[a, b] - items[a, i] * items[b, i] / items[i, i] for a in rest for b in rest}
        else:
            i, j = places
            p, q, r = items[i, i], items[i, j], items[j, j]
            d = p * r - q * q
            found.append((k, {7: 0, 3: 2}[by_eight(d / 4 ** k)]))
            less = {}
            for a in rest:
                for b in rest:
                    e, f, g, h = items[a, i], items[a, j], items[b, i], items[b, j]
                    less[a, b] = (r * e * g - q * (e * h + f * g) + p * f * h) / d
            items = {(a, b): items[a, b] - less[a, b] for a in rest for b in rest}
        unknowns = rest
    return sorted(found)


def scales_in(pieces):
    """The list of the tuples (k, many, odd) of pieces, told by going over all scales one by one."""
    found = {}
    for k, kind in pieces:
        many, odd = found.get(k, (0, False))
        found[k] = (many + (1 if kind % 2 else 2), odd or kind % 2 == 1)
    return [(k, many, odd) for k, (many, odd) in sorted(found.items())]


def unknowns_in(pieces):
    return sum(1 if kind % 2 else 2 for _, kind in pieces)


def pieces_up_to(scales, unknowns, kinds=KINDS):
    """All pieces with scales below a number and of at most so many unknowns, in order."""
    choices = [(k, kind) for k in range(scales) for kind in kinds]
    found = [[]]
    last = [[]]
    while last:
        last = [ahead + [piece] for ahead in last for piece in choices if not ahead or ahead[-1] <= piece]
        last = [pieces for pieces in last if unknowns_in(pieces) <= unknowns]
        found.extend(last)
    return sorted(found)


def kinds_at(pieces, scale):
    return [kind for k, kind in pieces if k == scale]


def is_odd_scale(pieces, scale):
    return any(kind % 2 for kind in kinds_at(pieces, scale))


def slow_signs(pieces):
    """The scales by the words of point 14."""
    found = []
    for k in sorted({k for k, _ in pieces}):
        kinds = kinds_at(pieces, k)
        minus = sum(kind in (2, 3, 5) for kind in kinds)
        found.append((k, sum(1 if kind % 2 else 2 for kind in kinds), is_odd_scale(pieces, k), -1 if minus % 2 else 1))
    return found


def slow_chain(pieces, scale):
    """The numbers of the chain in which an odd scale stands."""
    first = last = scale
    while first > 0 and is_odd_scale(pieces, first - 1):
        first -= 1
    while is_odd_scale(pieces, last + 1):
        last += 1
    return range(first, last + 1)


def slow_chains(pieces):
    found = set()
    for k, _ in pieces:
        if is_odd_scale(pieces, k):
            chain = slow_chain(pieces, k)
            found.add((chain[0], sum(kind for at in chain for kind in kinds_at(pieces, at) if kind % 2) % 8))
    return sorted(found)


def slow_way(pieces, scale):
    """The scales on the way on which a scale is, going on from count to count."""
    def joined(at):
        return is_odd_scale(pieces, at) or is_odd_scale(pieces, at + 1)

    first = last = scale
    while first > 0 and joined(first - 1):
        first -= 1
    while joined(last):
        last += 1
    return [k for k in range(first, last + 1) if kinds_at(pieces, k)]


def slow_ways(pieces):
    return sorted({(slow_way(pieces, k)[0], slow_way(pieces, k)[-1]) for k, _ in pieces})


def slow_symbol(pieces, size):
    """The symbol by the words of point 15: each sign -1 is walked on its own, step by step."""
    signs = {k: sign for k, _, _, sign in slow_signs(pieces)}
    sums = dict(slow_chains(pieces))
    for k in sorted(signs, reverse=True):
        least = slow_way(pieces, k)[0]
        if signs[k] == -1 and k != least:
            signs[k], signs[least] = 1, -signs[least]
            for at in range(least, k):
                odd = at if is_odd_scale(pieces, at) else at + 1
                sums[slow_chain(pieces, odd)[0]] += 4
    scales = [(k, many, odd, signs[k]) for k, many, odd, _ in slow_signs(pieces)]
    return scales, [(k, sums[k] % 8) for k in sorted(sums)], size - unknowns_in(pieces)


def as_key(value):
    """A value with all of its lists turned into tuples, so that it can be a key."""
    if isinstance(value, (list, tuple)):
        return tuple(as_key(item) for item in value)
    return value


def steps_to_all(size):
    """Changes of which each change of words is a product, whatever the width."""
    unit = [[int(i == j) for j in range(size)] for i in range(size)]
    found = []
    for i in range(size):
        for j in range(size):
            for item in (1,) if i != j else (3, 5, -1):
                change = [list(row) for row in unit]
                change[i][j] = item
                found.append(change)
    return found


@lru_cache
def classes_by_changes(width, size):
    """The dict of all tables at a width, as keys, and the number of the class in which changes hold each."""
    steps = steps_to_all(size)
    numbers = {}
    many = 0
    for table in small_tables(width, size):
        if as_key(table) not in numbers:
            numbers[as_key(table)] = many
            left = [table]
            while left:
                form = left.pop()
                for change in steps:
                    reached = slow_table(width, slow_changed(form, change))
                    if as_key(reached) not in numbers:
                        numbers[as_key(reached)] = many
                        left.append(reached)
            many += 1
    return numbers


def slow_counts(width, form):
    """How often each word is taken, by going through all lists of words."""
    found = [0] * 2 ** width
    for words in product(range(2 ** width), repeat=len(form)):
        found[slow_value(width, form, words)] += 1
    return found


def led_by(width, form, change):
    """The table at a width of the form that a change makes of a form."""
    return slow_table(width, slow_changed(form, change))


def are_words_below(width, rows):
    return all(type(item) is int and 0 <= item < 2 ** width for row in rows for item in row)


def settled(one, other):
    """The t + 3 of point 22 of two forms, 1 where neither has pieces."""
    pieces = slow_pieces_of(one) + slow_pieces_of(other)
    return max([k + 3 if kind % 2 else k + 4 for k, kind in pieces], default=1)


def two_sums(many, seed, scales):
    """Tuples of two sums of pieces with scales below a number, often alike ones, or alike up to some width."""
    numbers = Numbers(seed)
    for at in range(many):
        size = at % 6 + 1
        pieces = numbers.pieces(size, numbers.one_of((min(2, scales), min(4, scales), scales)))
        if pieces:
            more = numbers.one_of((0, 0, scales - 1 - pieces[-1][0]))
            pieces = [(k + more, kind) for k, kind in pieces]
        others = []
        for k, kind in pieces:
            what = numbers.below(12)
            if what < 4:
                others.append((k, (kind + 4) % 8 if kind % 2 else 2 - kind))
            elif what == 4:
                others.append((numbers.below(scales), kind))
            elif what == 5 and kind % 2 == 0:
                others.extend([(k, 1), (k, 7)])
            elif what < 8 and kind % 2:
                others.append((k, numbers.one_of((1, 3, 5, 7))))
            else:
                others.append((k, kind))
        yield rows_of(pieces, size), rows_of(sorted(others), size)


def rows_of(pieces, size):
    """The sum of pieces."""
    rows = [[0] * size for _ in range(size)]
    at = 0
    for k, kind in pieces:
        rows[at][at] = 2 ** k * kind
        if kind % 2 == 0:
            rows[at + 1][at + 1] = 2 ** k * kind
            rows[at][at + 1] = rows[at + 1][at] = 2 ** k
        at += 1 if kind % 2 else 2
    return rows

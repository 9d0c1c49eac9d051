"""What several test files use: tables of all sorts, wrong things, and checks that look at kinds as well."""

import copy
import itertools
import random
import unittest

from crossgrants.grants import Grants

SIZES = [(inlets, outlets) for inlets in range(1, 13) for outlets in range(1, 13)]
SOME_SIZES = [(1, 1), (1, 12), (12, 1), (2, 3), (5, 4), (12, 11), (12, 12)]

# Things of any kind that a question may be asked of: numbers, truths, None, texts, lists and tuples.
ODD_THINGS = [
    0, 1, -1, 2, 12, 13, 10**30, -(10**30), True, False, None, "", "0", "1", "01", "ab", "[]", "(0, 0)",
    [], (), [0], [1], (0,), (1,), [0, 0], (0, 0), (0, 1), (1, 0), (1, 2, 3), [None], (None, None), ("0", "0"),
    [[]], ((),), [()], ([],), ([], []), [[], []], ([0], [0]), ((0,), (0,)), [(0, 0)], [[0, 2]], ((0, 0),), [(0, 0, 0)],
    [[(0, 0)]], ([(0, 0)],), [([0],)], [[[[[[]]]]]], ((((((),),),),),), [[[[[[1]]]]]], ((((((0,),),),),),),
]
FEW_ODD_THINGS = [0, -1, True, None, "", "0", [], (), (0, 0), [0, 0], [(0, 0)]]


def mixed(inlets, outlets, seed=3):
    """A table whose numbers look mixed, but are the same each time."""
    return [[(i * i + seed * o * i + o * o + seed) // 2 % 2 for o in range(outlets)] for i in range(inlets)]


def filled(inlets, outlets, number):
    return [[number] * outlets for inlet in range(inlets)]


def small_tables():
    """Every table of at most three inlets and three outlets."""
    for inlets, outlets in itertools.product(range(1, 4), repeat=2):
        for numbers in itertools.product((0, 1), repeat=inlets * outlets):
            yield [list(numbers[i * outlets:(i + 1) * outlets]) for i in range(inlets)]


def large_tables():
    for inlets, outlets in SIZES:
        yield filled(inlets, outlets, 0)
        yield filled(inlets, outlets, 1)
        yield mixed(inlets, outlets)


def all_tables():
    yield from small_tables()
    yield from large_tables()


def drawn_table(draw, inlets, outlets):
    """A table that is thin, full or in between, by a source that draws the same each time."""
    share = draw.choice((1, 2, 3, 5, 8, 10))
    return [[1 if draw.randrange(10) < share else 0 for outlet in range(outlets)] for inlet in range(inlets)]


def drawn_tables(seed, many):
    """So many tables of drawn sizes."""
    draw = random.Random(seed)
    for turn in range(many):
        yield drawn_table(draw, draw.randint(1, 12), draw.randint(1, 12))


def steps_table(many):
    """Inlet i asks for outlets i and i + 1 alone."""
    return [[1 if outlet in (inlet, inlet + 1) else 0 for outlet in range(many)] for inlet in range(many)]


def forms(table):
    """The same table as lists and tuples."""
    return [
        table,
        tuple(table),
        [tuple(row) for row in table],
        tuple(tuple(row) for row in table),
        tuple(tuple(row) if at % 2 else list(row) for at, row in enumerate(table)),
    ]


def plain_asks(table):
    """The asks, by going through all places."""
    places = itertools.product(range(len(table)), range(len(table[0])))
    return [(inlet, outlet) for inlet, outlet in places if table[inlet][outlet] == 1]


def all_pairs(table):
    """Every list that is right pairs of a table."""
    asks = plain_asks(table)
    for many in range(min(len(table), len(table[0])) + 1):
        for chosen in itertools.combinations(asks, many):
            if len({inlet for inlet, outlet in chosen}) == len({outlet for inlet, outlet in chosen}) == many:
                yield list(chosen)


def drawn_pairs(draw, table):
    """Some right pairs of a table, maybe none, maybe full."""
    asks = plain_asks(table)
    draw.shuffle(asks)
    pairs = []
    for inlet, outlet in asks[:draw.randint(0, len(asks))]:
        if all(inlet != one and outlet != other for one, other in pairs):
            pairs.append((inlet, outlet))
    return sorted(pairs)


def drawn_numbers(draw, inlets, outlets, most):
    return [[draw.randint(0, most) for outlet in range(outlets)] for inlet in range(inlets)]


def drawn_loads(seed, many):
    """Loads of drawn sizes: thin ones, heavy ones, ones that are just beyond or just within their beats."""
    draw = random.Random(seed)
    for turn in range(many):
        inlets, outlets = draw.randint(1, 8), draw.randint(1, 8)
        numbers = drawn_numbers(draw, inlets, outlets, draw.choice((1, 1, 2, 3, 6, 24)))
        heaviest = max(map(sum, numbers + list(zip(*numbers))))
        yield (max(1, min(24, heaviest + draw.choice((-3, -1, 0, 0, 1, 5, heaviest, heaviest + 1)))), numbers)


def fitting_load(draw, inlets, outlets, beats):
    """A load of as many cells as its beats have room for, or fewer: one or none of each pair in each beat."""
    numbers = filled(inlets, outlets, 0)
    share = draw.choice((2, 5, 9, 10))
    for beat in range(beats):
        some, others = draw.sample(range(inlets), inlets), draw.sample(range(outlets), outlets)
        for inlet, outlet in zip(some, others):
            numbers[inlet][outlet] += 1 if draw.randrange(10) < share else 0
    return (beats, numbers)


def fitting_loads(seed, many):
    draw = random.Random(seed)
    for turn in range(many):
        yield fitting_load(draw, draw.randint(1, 8), draw.randint(1, 8), draw.randint(1, 24))


def drawn_shares(draw, inlets, outlets):
    most = draw.choice((1, 2, 3, 9))
    return [[draw.randint(1, most) for inlet in range(inlets)] for outlet in range(outlets)]


def moved_grants(draw, inlets, outlets, shares=None):
    """A Grants behind some drawn beats."""
    grants = Grants(inlets, outlets, shares=shares)
    for turn in range(draw.randrange(6)):
        grants.beat(drawn_table(draw, inlets, outlets), rounds=draw.randint(1, 4))
    return grants


def drawn_grants(draw, most=12):
    """A Grants of a drawn size, with shares or without, behind some beats."""
    inlets, outlets = draw.randint(1, most), draw.randint(1, most)
    return moved_grants(draw, inlets, outlets, draw.choice((None, drawn_shares(draw, inlets, outlets))))


def spoiled(thing):
    """The thing changed at one place, at any depth: most are wrong, whatever it was right for."""
    yield from FEW_ODD_THINGS
    if isinstance(thing, (list, tuple)):
        kind, items = type(thing), list(thing)
        yield tuple(items) if kind is list else items
        for at in range(len(items) + 1):
            for extra in FEW_ODD_THINGS:
                yield kind(items[:at] + [extra] + items[at:])
        for at, item in enumerate(items):
            yield kind(items[:at] + items[at + 1:])
            yield kind(items[:at] + [item] + items[at:])
            yield kind(items[at:] + items[:at])
            yield kind(items[:at] + items[at:at + 2][::-1] + items[at + 2:])
            for worse in spoiled(item):
                yield kind(items[:at] + [worse] + items[at + 1:])
    elif isinstance(thing, int):
        yield from (thing + 1, thing - 1, -thing, thing + 12, bool(thing), str(thing), [thing], (thing,))


class SameTest(unittest.TestCase):
    def assert_same(self, told, wanted):
        """Equal, and of the same kinds all through: 1 is not True, a list is no tuple."""
        self.assertEqual(repr(told), repr(wanted))

    def assert_untouched(self, ask, *handed):
        """The answer to ask, which left all that was handed in as it was."""
        kept = copy.deepcopy(handed)
        told = ask(*handed)
        self.assert_same(handed, kept)
        return told

    def assert_told(self, ask, wanted, *handed):
        """The answer is the truth itself, twice, and leaves all as it was."""
        self.assertIs(self.assert_untouched(ask, *handed), wanted, handed)
        self.assertIs(ask(*handed), wanted, handed)

    def assert_refused(self, kind, what, ask, *handed, **named):
        """Refused with this very class, and with what in its field."""
        with self.assertRaises(kind) as caught:
            ask(*handed, **named)
        self.assertIs(type(caught.exception), kind)
        self.assert_same(caught.exception.what, what)

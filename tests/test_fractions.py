"""[5] to [7] Fractions."""

from fractions import Fraction
from math import gcd
from random import Random

from leastfield import fractions
from leastfield.errors import InvalidFraction, InvalidSize, InvalidText
from tests.checks import Checks
from tests.samples import ANY, FAN, Mesh, at, frac, nested, random_frac, spoiled, worth_of

BIG = 10 ** 499 + 7


def pairs(seed, many=60):
    random = Random(seed)
    some = [(random_frac(random), random_frac(random)) for _ in range(many)]
    return some + [((0, 1), (0, 1)), ((1, 3), (1, 3)), ((-1, 3), (1, 3)), ((BIG, BIG + 1), (-BIG, BIG + 2)),
                   ((1, 2), (2, 3)), ((5, 1), (-5, 1))]


class WhatIsAFraction(Checks):
    def test_constants(self):
        self.same(fractions.ZERO, (0, 1))
        self.same(fractions.ONE, (1, 1))

    def test_fractions(self):
        for value in ((0, 1), (1, 1), (-1, 1), (1, 2), (-7, 3), (BIG, 1), (-1, 10 ** 3999), (10 ** 3999, 3), (4, 9)):
            self.assertIs(fractions.is_fraction(value), True)
            self.assertIsNone(fractions.need_fraction(value))

    def test_what_is_no_tuple_of_two_integers(self):
        for value in (None, 0, 1, True, "1/2", "ab", [1, 2], (), (1,), (1, 2, 3), (1, True), (True, 1), (False, 1),
                      (1, None), ("1", "2"), ((1,), 2), (1, [2]), at(0, 0), FAN, (FAN, 1), nested(30), Mesh(0, 1),
                      (True, 0), (True, -2), (None, 0), ("a", 0)):
            self.raises(InvalidFraction, -1, fractions.need_fraction, value)
            self.assertIs(fractions.is_fraction(value), False)

    def test_bottoms_that_are_not_above_0(self):
        for value in ((0, 0), (1, 0), (1, -1), (2, -4), (0, -1), (4, 0), (-10 ** 3999, -1)):
            self.raises(InvalidFraction, 1, fractions.need_fraction, value)
            self.assertIs(fractions.is_fraction(value), False)

    def test_what_something_divides(self):
        for value in ((2, 4), (-2, 4), (0, 2), (3, 3), (-6, 9), (10 ** 3999, 10), (0, 10 ** 3999)):
            self.raises(InvalidFraction, 0, fractions.need_fraction, value)
            self.assertIs(fractions.is_fraction(value), False)

    def test_any_value(self):
        for value in ANY:
            right = (isinstance(value, tuple) and len(value) == 2
                     and all(isinstance(thing, int) and not isinstance(thing, bool) for thing in value)
                     and value[1] > 0 and gcd(*value) == 1)
            self.assertIs(fractions.is_fraction(value), right, value)
        for one in ((1, 1), (0, 1), (-3, 7)):
            for value in spoiled(one):
                self.assertIs(fractions.is_fraction(value), False, value)


class Making(Checks):
    def test_quotients(self):
        for top in range(-6, 7):
            for bottom in range(-6, 7):
                if bottom:
                    self.same(fractions.fraction(top, bottom), frac(top, bottom))
        self.same(fractions.fraction(BIG * 4, -BIG * 6), (-2, 3))

    def test_0_does_not_divide(self):
        for top in (0, 1, -5):
            self.raises(InvalidSize, "bottom", fractions.fraction, top, 0)
        for one in ((0, 1), (2, 3)):
            self.raises(InvalidSize, "bottom", fractions.over, one, (0, 1))

    def test_whole(self):
        for number in (0, 1, -4, BIG):
            self.same(fractions.whole(number), (number, 1))

    def test_arithmetic(self):
        for one, other in pairs(1):
            x, y = worth_of(one), worth_of(other)
            self.same(fractions.plus(one, other), frac(x + y))
            self.same(fractions.minus(one, other), frac(x - y))
            self.same(fractions.times(one, other), frac(x * y))
            if y:
                self.same(fractions.over(one, other), frac(x / y))
            self.same(fractions.negative(one), frac(-x))
            self.same(fractions.half(one), frac(x / 2))

    def test_order(self):
        for one, other in pairs(2):
            x, y = worth_of(one), worth_of(other)
            self.same(fractions.compared(one, other), (x > y) - (x < y))
            self.same(fractions.sign_of(one), (x > 0) - (x < 0))
            self.same(fractions.floor_of(one), x.__floor__())
            self.same(fractions.ceiling_of(one), x.__ceil__())


class Several(Checks):
    def test_totals(self):
        for many in range(0, 12):
            some = [one for one, _ in pairs(many)[:many]]
            for kind in (list, tuple):
                self.same(fractions.total_of(kind(some)), frac(sum(worth_of(one) for one in some)))

    def test_least_and_greatest_go_by_worth(self):
        for many in range(1, 12):
            some = [one for one, _ in pairs(many)[:many]]
            for kind in (list, tuple):
                self.same(fractions.least_of(kind(some)), frac(min(worth_of(one) for one in some)))
                self.same(fractions.greatest_of(kind(some)), frac(max(worth_of(one) for one in some)))
        self.same(fractions.least_of([(1, 2), (1, 3)]), (1, 3))
        self.same(fractions.greatest_of([(2, 7), (1, 3)]), (1, 3))

    def test_of_none(self):
        for none in ((), []):
            self.same(fractions.total_of(none), (0, 1))
            self.raises(InvalidSize, "some", fractions.least_of, none)
            self.raises(InvalidSize, "some", fractions.greatest_of, none)
            self.raises(InvalidSize, "weights", fractions.mean_of, none, none)

    def test_means(self):
        for many in range(1, 9):
            weights = [one for one, _ in pairs(many + 30)[:many]]
            worths = [other for _, other in pairs(many + 40)[:many]]
            under = sum(worth_of(one) for one in weights)
            over = sum(worth_of(one) * worth_of(other) for one, other in zip(weights, worths))
            if under:
                self.same(fractions.mean_of(weights, tuple(worths)), frac(over / under))
        self.raises(InvalidSize, "weights", fractions.mean_of, ((1, 2), (-1, 2)), ((1, 1), (5, 1)))
        self.same(fractions.mean_of(((-1, 2), (-1, 2)), ((1, 1), (5, 1))), (3, 1))


class Simplest(Checks):
    def by_search(self, low, high):
        for bottom in range(1, 1000):
            top = (low * bottom).__ceil__()
            if Fraction(top, bottom) <= high:
                return frac(top, bottom)

    def test_least_bottom_then_least(self):
        for one, other in pairs(3, 200)[:200]:
            low, high = sorted((worth_of(one), worth_of(other)))
            self.same(fractions.simplest(frac(low), frac(high)), self.by_search(low, high))
            near = low + Fraction(1, 97)
            self.same(fractions.simplest(frac(low), frac(near)), self.by_search(low, near))

    def test_edges(self):
        self.same(fractions.simplest((5, 2), (5, 2)), (5, 2))
        self.same(fractions.simplest((-5, 2), (7, 2)), (-2, 1))
        self.same(fractions.simplest((3, 1), (4, 1)), (3, 1))
        self.same(fractions.simplest((-9, 4), (-1, 3)), (-2, 1))
        self.same(fractions.simplest((-1, 3), (-1, 4)), (-1, 3))
        self.same(fractions.simplest((7, 3), (5, 2)), (5, 2))
        top, bottom = 10 ** 19 + 51, 10 ** 19 + 9
        self.same(fractions.simplest((top, bottom), (top, bottom)), frac(top, bottom))

    def test_high_below_low(self):
        self.raises(InvalidSize, "high", fractions.simplest, (1, 2), (1, 3))
        self.raises(InvalidSize, "high", fractions.simplest, (0, 1), (-1, 9))

    def test_top_is_nearest_to_0_too(self):
        for one, other in pairs(4)[:60]:
            low, high = sorted((abs(worth_of(one)), abs(worth_of(other))))
            top, _ = fractions.simplest(frac(low), frac(high))
            for smaller in range(top):
                # Some bottom b with low <= smaller / b <= high.
                fits = [b for b in range(1, 200) if low <= Fraction(smaller, b) <= high]
                self.assertEqual(fits, [])


class Texts(Checks):
    def test_texts(self):
        for one, text in (((0, 1), "0"), ((1, 1), "1"), ((-1, 1), "-1"), ((1, 2), "1/2"), ((-7, 2), "-7/2"),
                          ((10, 3), "10/3"), ((-120, 1), "-120"), ((BIG, BIG + 1), f"{BIG}/{BIG + 1}")):
            self.same(fractions.fraction_text(one), text)
            self.same(fractions.read_fraction(text), one)

    def test_there_and_back(self):
        for one, other in pairs(5):
            for each in (one, other):
                self.same(fractions.read_fraction(fractions.fraction_text(each)), each)

    def test_other_strings(self):
        for text in ("", "-", "/", "1/", "/2", "-0", "+1", "1/1", "4/2", "0/1", "0/5", "-0/5", "00", "01", "1/02", "--1",
                     "1/-2", "-1/-2", "1/0", "0/0", "1/2/3", " 1", "1 ", "1\n", "1_0", "1.5", "a", "1/a", "1e3", "0x1",
                     "\u0661", "\u00b2", "1/\u0662", "\uff11", "1 /2", "1/ 2", "-1/1", "- 1", "2/6", "None", "10/5"):
            self.raises(InvalidText, 0, fractions.read_fraction, text)

    def test_no_strings(self):
        for value in ANY:
            if not isinstance(value, str):
                self.raises(InvalidText, -1, fractions.read_fraction, value)
        for value in (b"1", 5, (1, 2), ["1"], ("1/2",)):
            self.raises(InvalidText, -1, fractions.read_fraction, value)

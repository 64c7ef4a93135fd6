"""Part 1: golden numbers."""

import unittest
from fractions import Fraction

from nevertwice.errors import BadNumber, BadPower, BadText, DividedByZero
from nevertwice.golden import (are_equal, conjugate, integer_above, integer_below, is_below, is_golden, is_whole,
                               minus, number_text, plus, power, quotient, read_number, reduced, sign, times)
from tests.samples import check_error, odd_values, spoiled

LONG = 10 ** 999
SOME = [
    (0, 0, 1), (0, 0, 7), (1, 0, 1), (0, 1, 1), (1, -1, 1), (2, -1, 1), (-1, 1, 1), (3, -2, 1), (-3, 2, 1),
    (5, -3, 1), (-8, 5, 3), (2, -4, 6), (-6, 9, 3), (7, 0, 2), (-7, 0, 2), (0, -1, 2), (0, 3, 4), (-1, -1, 5),
    (12, 18, 30), (-144, 89, 1), (144, -89, 2), (LONG + 7, -LONG, LONG - 1), (-LONG * 9, LONG * 9 - 1, 3),
]
ONE_ARGUMENT = [reduced, sign, integer_below, integer_above, is_whole, conjugate, number_text]
TWO_ARGUMENTS = [plus, minus, times, quotient, is_below, are_equal]


def bounds_of_g():
    """Two fractions on both sides of g, so near that they decide all signs here."""
    low, high = 1, 1
    for _ in range(12000):
        low, high = high, low + high
    one, other = Fraction(high, low), Fraction(low + high, high)
    return min(one, other), max(one, other)


BELOW_G, ABOVE_G = bounds_of_g()


def between(number):
    """Two fractions between which the value lies."""
    a, b, d = number
    ends = ((a + b * BELOW_G) / d, (a + b * ABOVE_G) / d)
    return min(ends), max(ends)


def value(number):
    """The two fractions a / d and b / d, which tell the value."""
    a, b, d = number
    return Fraction(a, d), Fraction(b, d)


class Numbers(unittest.TestCase):
    def check_reduced(self, number):
        self.assertTrue(is_golden(number))
        self.assertEqual(reduced(number), number)

    def test_examples(self):
        self.assertEqual(times((0, 1, 1), (0, 1, 1)), (1, 1, 1))
        self.assertEqual(quotient((1, 0, 1), (0, 1, 1)), (-1, 1, 1))
        self.assertEqual(quotient((1, 0, 1), (2, 1, 1)), (3, -1, 5))
        self.assertEqual(sign((2, -1, 1)), 1)
        self.assertEqual(sign((3, -2, 1)), -1)
        self.assertEqual(integer_below((0, 1, 1)), 1)
        self.assertEqual(integer_above((0, 1, 1)), 2)
        self.assertEqual(integer_below((0, -1, 2)), -1)
        self.assertEqual(conjugate((0, 1, 1)), (1, -1, 1))
        self.assertEqual(power(-2), (2, -1, 1))
        self.assertEqual(reduced((2, -4, 6)), (1, -2, 3))
        self.assertEqual(number_text((2, -4, 6)), "1-2g/3")
        check_error(self, BadText, {"line": 1}, read_number, "2-4g/6")
        self.assertIs(is_golden((1, 2, 0)), False)

    def test_is_golden(self):
        for number in SOME:
            self.assertIs(is_golden(number), True)
            for thing in spoiled(number):
                self.assertIs(is_golden(thing), False, thing)
        for thing in odd_values():
            self.assertIs(is_golden(thing), False)
        for thing in ((1, 1, 0), (1, 1, -1), (0, 0, 0), (1, 0, True), 5, 0):
            self.assertIs(is_golden(thing=thing), False)

    def test_reduced(self):
        for number in SOME:
            one = reduced(number=number)
            self.assertEqual(value(one), value(number))
            self.assertEqual(one[2], (value(one)[0].denominator * value(one)[1].denominator) //
                             __import__("math").gcd(value(one)[0].denominator, value(one)[1].denominator))
        self.assertEqual(reduced((0, 0, 9)), (0, 0, 1))
        self.assertEqual(reduced((0, 6, 9)), (0, 2, 3))

    def test_sums_differences_products_quotients(self):
        for one in SOME:
            for other in SOME:
                (a, b), (c, e) = value(one), value(other)
                for number, right in ((plus(one, other), (a + c, b + e)), (minus(one, other), (a - c, b - e)),
                                      (times(one=one, other=other), (a * c + b * e, a * e + b * c + b * e))):
                    self.check_reduced(number)
                    self.assertEqual(value(number), right)
                if (c, e) == (0, 0):
                    check_error(self, DividedByZero, {}, quotient, one, other)
                else:
                    self.check_reduced(quotient(one, other))
                    self.assertEqual(times(quotient(one=one, other=other), other), reduced(one))

    def test_signs_and_order(self):
        for one in SOME:
            low, high = between(one)
            right = 0 if one[:2] == (0, 0) else 1 if low > 0 else -1
            self.assertTrue(right == 0 or low * high > 0)
            self.assertEqual(sign(number=one), right)
            for other in SOME:
                difference = sign(minus(one, other))
                self.assertIs(is_below(one, other), difference == -1)
                self.assertIs(is_below(one=other, other=one), difference == 1)
                self.assertIs(are_equal(one=one, other=other), value(one) == value(other))

    def test_signs_of_the_nearest_numbers(self):
        low, high = 0, 1
        for step in range(60):
            low, high = high, low + high
            # The numbers high - low g come nearer and nearer to zero from both sides in turn.
            self.assertEqual(sign((high, -low, 1)), 1 if step % 2 == 1 else -1)
            self.assertEqual(sign((-high, low, 5)), -1 if step % 2 == 1 else 1)

    def test_integers_beside(self):
        for number in SOME:
            low, high = between(number)
            below, above = integer_below(number=number), integer_above(number=number)
            self.assertTrue(below <= low and high < below + 1 or low == high == below, number)
            self.assertTrue(above - 1 < low and high <= above, number)
        self.assertEqual((integer_below((-6, 0, 3)), integer_above((-6, 0, 3))), (-2, -2))
        self.assertEqual((integer_below((-7, 0, 3)), integer_above((-7, 0, 3))), (-3, -2))

    def test_is_whole(self):
        for number in SOME:
            self.assertIs(is_whole(number=number), reduced(number)[2] == 1)
        self.assertIs(is_whole((4, -6, 2)), True)
        self.assertIs(is_whole((4, 1, 2)), False)

    def test_conjugates(self):
        for one in SOME:
            a, b = value(one)
            self.check_reduced(conjugate(one))
            self.assertEqual(conjugate(conjugate(number=one)), reduced(one))
            self.assertEqual(value(times(one, conjugate(one))), (a * a + a * b - b * b, 0))
            for other in SOME[:14]:
                self.assertEqual(conjugate(plus(one, other)), plus(conjugate(one), conjugate(other)))
                self.assertEqual(conjugate(times(one, other)), times(conjugate(one), conjugate(other)))

    def test_power(self):
        self.assertEqual(power(0), (1, 0, 1))
        self.assertEqual(power(n=1), (0, 1, 1))
        for n in (-2000, -1999, -37, -1, 0, 1, 2, 38, 1998, 1999):
            self.assertEqual(times(power(n), (0, 1, 1)), power(n + 1))
        self.assertEqual(times(power(2000), power(-2000)), (1, 0, 1))
        for thing in odd_values() + [2001, -2001, 10 ** 50, (1,)]:
            check_error(self, BadPower, {"thing": thing}, power, thing)
            check_error(self, BadPower, {"thing": thing}, power, n=thing)

    def test_wrong_numbers(self):
        for thing in odd_values() + spoiled((1, 0, 1)) + [(1, 2, 0), (1, 2, -3), 5]:
            told = {"thing": thing}
            for function in ONE_ARGUMENT:
                check_error(self, BadNumber, told, function, thing)
                check_error(self, BadNumber, told, function, number=thing)
            for function in TWO_ARGUMENTS:
                check_error(self, BadNumber, told, function, thing, (0, 0, 1))
                check_error(self, BadNumber, told, function, (1, 0, 1), thing)
                check_error(self, BadNumber, told, function, thing, (1, 2, 0, 4))
                check_error(self, BadNumber, told, function, other=(1, 2, 0, 4), one=thing)

    def test_errors_carry_what_was_passed(self):
        thing = [(1, 0, 1)]
        with self.assertRaises(BadNumber) as caught:
            plus((1, 0, 1), thing)
        self.assertIs(caught.exception.thing, thing)


class Texts(unittest.TestCase):
    def test_texts(self):
        for number, text in (((1, -2, 1), "1-2g"), ((0, 0, 9), "0+0g"), ((-3, 1, 5), "-3+1g/5"),
                             ((-3, 0, 1), "-3+0g"), ((10, -20, 30), "1-2g/3"), ((0, -5, 10), "0-1g/2")):
            self.assertEqual(number_text(number=number), text)
            self.assertEqual(read_number(text=text), reduced(number))

    def test_there_and_back(self):
        for number in SOME:
            self.assertEqual(read_number(number_text(number)), reduced(number))

    def test_many_thousand_digits(self):
        a, b, d = 7 * 10 ** 9001 + 1, -10 ** 20000, 3 * 10 ** 5000
        text = "7" + "0" * 9000 + "1-1" + "0" * 20000 + "g/3" + "0" * 5000
        self.assertEqual(number_text((a, b, d)), text)
        self.assertEqual(read_number(text), (a, b, d))
        check_error(self, BadText, {"line": 1}, read_number, "0" + text)
        for length in (511, 512, 513, 1023, 1024, 1025, 4299, 4300, 4301):
            number = (-10 ** length + 1, 10 ** length, 10 ** length + 1)
            text = "-" + "9" * length + "+1" + "0" * length + "g/1" + "0" * (length - 1) + "1"
            self.assertEqual(number_text(number), text)
            self.assertEqual(read_number(text), number)

    def test_what_is_no_string(self):
        for thing in odd_values():
            if not isinstance(thing, str):
                check_error(self, BadText, {"line": 0}, read_number, thing)
                check_error(self, BadText, {"line": 0}, read_number, text=thing)

    def test_wrong_texts(self):
        wrong = ["", " ", "g", "1", "1g", "+1g", "1+g", "1+1", "1+1G", "1+1g ", " 1+1g", "1 + 1g", "1+1g\n", "01+1g",
                 "1+01g", "1-0g", "-0+1g", "+1+1g", "1+-1g", "1--1g", "1+1g/1", "1+1g/0", "1+1g/", "1+1g/-2", "1+1g2",
                 "1+1g/02", "2+2g/2", "0+0g/2", "1+1g/2/2", "1+1gg", "1+1g+1", "1.0+1g", "1_0+1g", "-1", "--1+1g",
                 "1+1g/+2", "g+1g", "1+1g/2g", "(1, 1, 1)", "1e3+1g", "x" * 2000, "0+0g 0+0g", "+", "-g", "+g", "-+g"]
        for text in wrong:
            check_error(self, BadText, {"line": 1}, read_number, text)
            check_error(self, BadText, {"line": 1}, read_number, text=text)


if __name__ == "__main__":
    unittest.main()

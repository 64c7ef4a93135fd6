"""Golden numbers: tuples (a, b, d) of integers, d at least 1, that stand for (a + b g) / d."""

from math import gcd, isqrt

from nevertwice.checks import is_plain_integer
from nevertwice.errors import BadNumber, BadPower, BadText, DividedByZero
from nevertwice.numerals import integer_text, integer_written

ZERO = (0, 0, 1)
GREATEST_POWER = 2000


def is_golden(thing):
    """Whether any value is a golden number, reduced or not."""
    if not isinstance(thing, tuple) or len(thing) != 3:
        return False
    # Written out, as every sum and product of golden numbers asks this first.
    a, b, d = thing
    return is_plain_integer(a) and is_plain_integer(b) and is_plain_integer(d) and d >= 1


def need_golden(thing):
    """Raises the error for any value that is not a golden number."""
    if not is_golden(thing):
        raise BadNumber(thing)


def _lowest(a, b, d):
    """(a + b g) / d as a reduced tuple, for any d but 0."""
    common = gcd(a, b, d)
    if d < 0:
        common = -common
    return (a // common, b // common, d // common)


def reduced(number):
    """The reduced tuple of the same value."""
    need_golden(number)
    a, b, d = number
    return _lowest(a, b, d)


def plus(one, other):
    """one + other."""
    need_golden(one)
    need_golden(other)
    a, b, d = one
    c, e, f = other
    return _lowest(a * f + c * d, b * f + e * d, d * f)


def minus(one, other):
    """one - other."""
    need_golden(one)
    need_golden(other)
    a, b, d = one
    c, e, f = other
    return _lowest(a * f - c * d, b * f - e * d, d * f)


def times(one, other):
    """one times other."""
    need_golden(one)
    need_golden(other)
    a, b, d = one
    c, e, f = other
    return _lowest(a * c + b * e, a * e + b * c + b * e, d * f)


def quotient(one, other):
    """one divided by other."""
    need_golden(one)
    need_golden(other)
    a, b, d = one
    c, e, f = other
    if c == 0 and e == 0:
        raise DividedByZero()
    # The conjugate of c + e g is (c + e) - e g, and their product has no g.
    norm = c * c + c * e - e * e
    return _lowest((a * (c + e) - b * e) * f, (b * c - a * e) * f, d * norm)


def sign_of_parts(a, b):
    """The sign of a + b g: 1, 0 or -1, by the squares of 2 a + b and of b w ([1.2])."""
    front = 2 * a + b
    if front >= 0 and b >= 0:
        return 1 if front > 0 or b > 0 else 0
    if front <= 0 and b <= 0:
        return -1
    does_front_win = front * front > 5 * b * b
    return 1 if does_front_win == (front > 0) else -1


def _order(one, other):
    """The sign of one - other."""
    need_golden(one)
    need_golden(other)
    a, b, d = one
    c, e, f = other
    return sign_of_parts(a * f - c * d, b * f - e * d)


def sign(number):
    """1, 0 or -1."""
    need_golden(number)
    return sign_of_parts(number[0], number[1])


def is_below(one, other):
    """Whether one is less than other."""
    return _order(one, other) < 0


def are_equal(one, other):
    """Whether both have the same value."""
    return _order(one, other) == 0


def integer_below(number):
    """The greatest integer that is not above the number."""
    need_golden(number)
    a, b, d = number
    root = isqrt(5 * b * b)
    if b < 0:
        # 5 b b is no square, so the root of it lies strictly between two integers.
        root = -root - 1
    return (2 * a + b + root) // (2 * d)


def integer_above(number):
    """The least integer that is not below the number."""
    need_golden(number)
    a, b, d = number
    return -integer_below((-a, -b, d))


def is_whole(number):
    """Whether the reduced d is 1."""
    need_golden(number)
    a, b, d = number
    return a % d == 0 and b % d == 0


def is_whole_golden(thing):
    """Whether any value is a whole golden number, reduced or not."""
    return is_golden(thing) and is_whole(thing)


def conjugate(number):
    """The number with 1 - g in the place of g."""
    need_golden(number)
    a, b, d = number
    return _lowest(a + b, -b, d)


def power(n):
    """g to the power n, n from -2,000 to 2,000."""
    if not is_plain_integer(n) or abs(n) > GREATEST_POWER:
        raise BadPower(n)
    a = 1
    b = 0
    for _ in range(abs(n)):
        if n > 0:
            a, b = b, a + b
        else:
            a, b = b - a, a
    return (a, b, 1)


def number_text(number):
    """The text of a golden number."""
    a, b, d = reduced(number)
    mark = "-" if b < 0 else "+"
    text = integer_text(a) + mark + integer_text(abs(b)) + "g"
    return text if d == 1 else text + "/" + integer_text(d)


def read_number(text):
    """The reduced number of a text."""
    if not isinstance(text, str):
        raise BadText(0)
    number = _number_written(text)
    # Only the text of the number counts: no leading zeros, no "-0", nothing that can be reduced.
    if not is_golden(number) or number_text(number) != text:
        raise BadText(1)
    return number


def _number_written(text):
    """What a text like -3+1g/5 tells as a tuple (a, b, d), with None for what is no integer."""
    front, _, behind = text.partition("g")
    at = max(front.rfind("+"), front.rfind("-"), 0)
    denominator = 1 if behind == "" else integer_written(behind.removeprefix("/"))
    return (integer_written(front[:at]), integer_written(front[at:].removeprefix("+")), denominator)

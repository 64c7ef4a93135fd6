"""Integers of any length as decimal digits, and back.

Python itself refuses to do this for integers of more than a few thousand digits,
so it is done block by block.
"""

BLOCK_DIGITS = 512
DIGITS = "0123456789"


def _block():
    """10 to the power BLOCK_DIGITS."""
    return (10 ** 64) ** 8


def integer_text(number):
    """The integer as Python writes it, however long it is."""
    block = _block()
    rest = abs(number)
    parts = []
    while rest >= block:
        rest, low = divmod(rest, block)
        parts.append(str(low).zfill(BLOCK_DIGITS))
    parts.append(str(rest))
    if number < 0:
        parts.append("-")
    return "".join(parts[::-1])


def is_digits(text):
    """Whether a string consists of decimal digits, at least one of them."""
    return len(text) > 0 and all([mark in DIGITS for mark in text])


def integer_of_digits(digits):
    """The integer that a string of decimal digits tells, however long it is."""
    block = _block()
    head = len(digits) % BLOCK_DIGITS
    value = int("0" + digits[:head])
    for start in range(head, len(digits), BLOCK_DIGITS):
        value = value * block + int(digits[start:start + BLOCK_DIGITS])
    return value


def integer_written(text):
    """The integer that a string tells as Python writes it, None for any other string."""
    digits = text.removeprefix("-")
    if not is_digits(digits):
        return None
    value = integer_of_digits(digits)
    if digits != text:
        value = -value
    return value if integer_text(value) == text else None

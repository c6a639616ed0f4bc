"""Whole numbers: which values they are, powers, texts of any number of figures."""


def is_whole(value):
    """True for an int other than True and False."""
    return isinstance(value, int) and not isinstance(value, bool)


def power(base, times):
    """The base, times times by itself, for times from 0 on."""
    total = 1
    left = times
    while left:
        if left % 2:
            total = total * base
        left = left // 2
        if left:
            base = base * base
    return total


def figures(number):
    """The number as text; in pieces, since Python refuses to write very long numbers at once."""
    if number.bit_length() < 1000:
        return str(number)
    pieces = []
    left = abs(number)
    while left:
        left, piece = divmod(left, 10 ** 60)
        pieces.append(str(piece).zfill(60))
    sign = "-" if number < 0 else ""
    return sign + "".join(pieces[::-1]).lstrip("0")


def read_whole(word):
    """The whole number with just this text, None if there is none."""
    digits = word[1:] if word.startswith("-") else word
    if not digits.isascii() or not digits.isdigit():
        return None
    if digits.startswith("0") and word != "0":
        return None
    total = 0
    for at in range(0, len(digits), 60):
        piece = digits[at:at + 60]
        total = total * power(10, len(piece)) + int(piece)
    return total if digits == word else -total

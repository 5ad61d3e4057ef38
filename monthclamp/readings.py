"""Readings: the dates and lists of steps that texts tell."""

from monthclamp.dates import check_date
from monthclamp.errors import InvalidDate, Unreadable
from monthclamp.texts import NO_STEPS

_MOST_DIGITS = 60


def read_date(text):
    """Return the date that has this text."""
    date = tuple([_integer(word, "") for word in text.split("/")])
    if len(date) != 3 or None in date:
        raise Unreadable(text)
    try:
        check_date(date)
    except InvalidDate:
        raise Unreadable(text) from None
    return date


def read_steps(text):
    """Return the list of steps that has this text."""
    if text == NO_STEPS:
        return []
    steps = [_integer(word, "+") for word in text.split(" ")]
    if None in steps:
        raise Unreadable(text)
    return steps


def _integer(word, plus):
    """Return the integer of a word in which positive ones begin with this sign, or None if it is no such word."""
    if word == "0":
        return 0
    sign = "-" if word.startswith("-") else plus
    digits = word[len(sign):]
    if not word.startswith(sign) or not _is_positive(digits):
        return None
    return -int(digits) if sign == "-" else int(digits)


def _is_positive(digits):
    """Return True if a text is that of a positive number which is not too long to be read."""
    if len(digits) > _MOST_DIGITS or digits.startswith("0"):
        return False
    # isdigit alone takes digits of other scripts, too.
    return digits.isascii() and digits.isdigit()

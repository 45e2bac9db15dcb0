"""Reading nestings from their texts."""

from retrynest.checks import is_valid_layer
from retrynest.errors import Unreadable

MOST_DIGITS = 2000


def is_number(text):
    """Return True if a text is a number as texts of nestings have it."""
    if not text.isascii() or not text.isdigit() or len(text) > MOST_DIGITS:
        return False
    return text == "0" or not text.startswith("0")


def read_numbers(words):
    """Return the numbers that words stand for, or None if one is no number."""
    if not all([is_number(word) for word in words]):
        return None
    return [int(word) for word in words]


def read_constant(text):
    """Return the constant layer of a text with an `x`, or None."""
    numbers = read_numbers(text.split("x"))
    if numbers is None or len(numbers) != 2:
        return None
    layer = (numbers[0], numbers[1])
    return layer if is_valid_layer(layer) else None


def read_layer(text):
    """Return the layer of a text, or None if no valid layer has this text."""
    if text == "-":
        return []
    if "x" in text:
        return read_constant(text)
    return read_numbers(text.split(","))


def read_nesting(text):
    """Return the nesting of a text."""
    if text == "none":
        return []
    layers = [read_layer(part) for part in text.split(" / ")]
    if None in layers:
        raise Unreadable(text)
    return layers

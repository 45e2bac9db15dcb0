"""Powers and roots of nestings, and nestings that commute."""

from retrynest.errors import InvalidNumber
from retrynest.normal import merged, normal_form


def power(nesting, times):
    """Return the normal form of a policy nested `times` times in itself."""
    layers = normal_form(nesting)
    if times < 0:
        raise InvalidNumber(times)
    return merged(layers * times)


def number_power(number, times):
    """Return the product of `times` factors that are this number."""
    product = 1
    for _ in range(times):
        product = product * number
    return product


def closer(number, times, guess):
    """Return Newton's next guess of a root, rounded down."""
    quotient = number // number_power(guess, times - 1)
    return ((times - 1) * guess + quotient) // times


def number_root(number, times):
    """Return the largest integer whose power is at most a positive number."""
    # From a guess that is not too small the guesses fall until the root.
    guess = 1 << -(-number.bit_length() // times)
    step = closer(number, times, guess)
    while step < guess:
        guess = step
        step = closer(number, times, guess)
    return guess


def constant_root(layer, times):
    """Return the root of one constant layer, as a nesting, or None."""
    wait, count = layer
    # Then even the power of 2 is larger, and the powers would take long.
    if times >= count.bit_length():
        return None
    found = number_root(count, times)
    if number_power(found, times) != count:
        return None
    return [(wait, found)]


def root(nesting, times):
    """Return the normal form whose power stands for the same policy, or None."""
    layers = normal_form(nesting)
    if times < 1:
        raise InvalidNumber(times)
    if not layers:
        return []
    if len(layers) == 1 and isinstance(layers[0], tuple):
        return constant_root(layers[0], times)
    # If the root ends and begins with tuples of one wait, each two
    # neighbouring copies of it share a layer, and one layer more is left.
    size, shared = divmod(len(layers), times)
    if size < 1 or shared > 1:
        return None
    found = layers[:size + shared - 1] + layers[-1:]
    return found if merged(found * times) == layers else None


def commute(first, second):
    """Return True if two policies commute, otherwise False."""
    one = normal_form(first)
    other = normal_form(second)
    return merged(one + other) == merged(other + one)

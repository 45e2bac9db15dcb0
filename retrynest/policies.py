"""Nesting of policies, and the policies that nestings stand for."""

from retrynest.checks import check_nesting, check_waits
from retrynest.errors import TooManyAttempts

MOST_ATTEMPTS = 10000


def check_size(total):
    """Raise TooManyAttempts if a policy is too long to be written out."""
    if total > MOST_ATTEMPTS:
        raise TooManyAttempts(total)


def nested(inner, outer):
    """Return the nesting of two policies as a new list, without checks."""
    waits = list(inner)
    for wait in outer:
        waits.append(wait)
        waits.extend(inner)
    return waits


def nest(inner, outer):
    """Return the policy that results from nesting `inner` in `outer`."""
    check_waits(inner)
    check_waits(outer)
    check_size((len(inner) + 1) * (len(outer) + 1))
    return nested(inner, outer)


def layer_attempts(layer):
    """Return the number of attempts of a valid layer."""
    if isinstance(layer, tuple):
        return layer[1]
    return len(layer) + 1


def layer_waits(layer):
    """Return the policy that a valid layer stands for, as a new list."""
    if isinstance(layer, tuple):
        wait, count = layer
        return [wait] * (count - 1)
    return list(layer)


def attempts(nesting):
    """Return the number of attempts of a nesting."""
    check_nesting(nesting)
    total = 1
    for layer in nesting:
        total = total * layer_attempts(layer)
    return total


def flatten(nesting):
    """Return the policy that a nesting stands for, as a list of waits."""
    check_size(attempts(nesting))
    waits = []
    for layer in nesting:
        # A trivial layer changes nothing, and copying for each would be slow.
        if layer_attempts(layer) > 1:
            waits = nested(waits, layer_waits(layer))
    return waits

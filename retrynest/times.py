"""Answers about single attempts of nestings, without writing them out."""

from retrynest.checks import check_nesting
from retrynest.errors import InvalidNumber
from retrynest.policies import attempts, layer_attempts


def wait_in_layer(layer, number):
    """Return the wait with a number of a layer, as a policy of its own."""
    if isinstance(layer, tuple):
        return layer[0]
    return layer[number - 1]


def time_in_layer(layer, attempt):
    """Return the time of an attempt of a layer, as a policy of its own."""
    if isinstance(layer, tuple):
        return layer[0] * attempt
    return sum(layer[:attempt])


def duration(layer):
    """Return the sum of all waits of a layer."""
    return time_in_layer(layer, layer_attempts(layer) - 1)


def wait_at(nesting, index):
    """Return the wait with this number, from 1 on."""
    total = attempts(nesting)
    if index < 1 or index >= total:
        raise InvalidNumber(index)
    number = index
    at = 0
    while number % layer_attempts(nesting[at]) == 0:
        number = number // layer_attempts(nesting[at])
        at = at + 1
    return wait_in_layer(nesting[at], number % layer_attempts(nesting[at]))


def time_of(nesting, attempt):
    """Return the time of an attempt: the sum of all waits before it."""
    total = attempts(nesting)
    if attempt < 0 or attempt >= total:
        raise InvalidNumber(attempt)
    time = 0
    number = attempt
    for layer in nesting:
        # The waits of this layer before the attempt: all of them once for
        # each attempt of the outer layers that is over, and then a part.
        number, place = divmod(number, layer_attempts(layer))
        time = time + number * duration(layer) + time_in_layer(layer, place)
    return time


def durations(nesting):
    """Return the sums of all waits of the first 0, 1, 2, .. layers alone."""
    found = [0]
    for layer in nesting:
        found.append(found[-1] * layer_attempts(layer) + duration(layer))
    return found


def first_run_until(layer, within, time):
    """Return the first attempt of a layer whose run does not end before `time`.

    Each run lasts `within`, and the last one does not end before `time`.
    """
    if isinstance(layer, tuple):
        late = time - within
        # Without a late run the sum of the two waits may be 0.
        return -(-late // (layer[0] + within)) if late > 0 else 0
    place = 0
    end = within
    while end < time:
        end = end + layer[place] + within
        place = place + 1
    return place


def first_attempt_from(nesting, time):
    """Return the first attempt whose time is at least `time`, or None."""
    check_nesting(nesting)
    if time < 0:
        raise InvalidNumber(time)
    lengths = durations(nesting)
    if time > lengths.pop():
        return None
    attempt = 0
    left = time
    for layer in reversed(nesting):
        within = lengths.pop()
        place = first_run_until(layer, within, left)
        attempt = attempt * layer_attempts(layer) + place
        left = left - place * within - time_in_layer(layer, place)
    return attempt

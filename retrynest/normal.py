"""Normal forms of nestings, and what they decide."""

from retrynest.checks import check_nesting, check_waits
from retrynest.splitting import is_inner_number


def smallest_inner_number(waits):
    """Return the smallest inner number above 1 of a policy that is not trivial."""
    count = len(waits) + 1
    for number in range(2, count // 2 + 1):
        if is_inner_number(waits, number):
            return number
    return count


def list_parts(waits):
    """Return the unsplittable parts of a policy, constant ones as tuples."""
    parts = []
    rest = waits
    while rest:
        # An inner number of the inner part is one of the whole policy, too,
        # so the part with the smallest one cannot be split.
        number = smallest_inner_number(rest)
        part = rest[:number - 1]
        if part.count(part[0]) == len(part):
            parts.append((part[0], number))
        else:
            parts.append(part)
        rest = rest[number - 1::number]
    return parts


def layer_parts(layer):
    """Return the parts of a valid layer, each of a kind that a normal form has."""
    if isinstance(layer, tuple):
        return [layer] if layer[1] > 1 else []
    return list_parts(layer)


def same_constant(first, second):
    """Return True if two layers are tuples with the same wait."""
    return isinstance(first, tuple) and isinstance(second, tuple) and first[0] == second[0]


def merged(layers):
    """Return the normal form of layers that are each of a kind that it has.

    Each list in it is new, because one layer may occur several times.
    """
    found = []
    for layer in layers:
        if found and same_constant(found[-1], layer):
            wait, count = found[-1]
            found[-1] = (wait, count * layer[1])
        elif isinstance(layer, tuple):
            found.append((layer[0], layer[1]))
        else:
            found.append(list(layer))
    return found


def normal_form(nesting):
    """Return the nesting in normal form that stands for the same policy."""
    check_nesting(nesting)
    return merged([part for layer in nesting for part in layer_parts(layer)])


def is_unsplittable(waits):
    """Return True if a policy is unsplittable, otherwise False."""
    check_waits(waits)
    return len(waits) > 0 and smallest_inner_number(waits) == len(waits) + 1


def same_policy(first, second):
    """Return True if two nestings stand for the same policy, otherwise False."""
    return normal_form(first) == normal_form(second)

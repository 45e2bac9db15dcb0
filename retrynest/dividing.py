"""Dividing nestings by inner and outer parts, and common inner parts."""

from math import gcd

from retrynest.normal import normal_form, same_constant


def without_layer(layer, part):
    """Return what is left of a layer without an inner part, or None.

    Both are layers of normal forms; what is left is a list of such layers.
    """
    if layer == part:
        return []
    if same_constant(layer, part) and layer[1] % part[1] == 0:
        return [(layer[0], layer[1] // part[1])]
    return None


def without_start(layers, part):
    """Return what is left of a normal form behind its first part, or None."""
    if not part:
        return layers
    last = len(part) - 1
    # Only the last layer of the part can be merged with what stands behind it.
    if last >= len(layers) or layers[:last] != part[:last]:
        return None
    left = without_layer(layers[last], part[last])
    if left is None:
        return None
    return left + layers[last + 1:]


def without_inner(nesting, inner):
    """Return the nesting around an inner part of a nesting, or None."""
    layers = normal_form(nesting)
    return without_start(layers, normal_form(inner))


def without_outer(nesting, outer):
    """Return the nesting within an outer part of a nesting, or None."""
    layers = normal_form(nesting)
    left = without_start(layers[::-1], normal_form(outer)[::-1])
    return None if left is None else left[::-1]


def common_layers(first, second):
    """Return the common inner part of two layers of normal forms, as a list."""
    if first == second:
        return [first]
    if same_constant(first, second):
        count = gcd(first[1], second[1])
        return [(first[0], count)] if count > 1 else []
    return []


def common_inner(first, second):
    """Return the normal form of the largest common inner part of two nestings."""
    found = []
    for one, other in zip(normal_form(first), normal_form(second)):
        found.extend(common_layers(one, other))
        if one != other:
            break
    return found

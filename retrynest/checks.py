"""The checks of policies and nestings that several files share."""

from retrynest.errors import InvalidLayer, InvalidWait


def first_negative(waits):
    """Return the list index of the first negative wait, or None."""
    for index, wait in enumerate(waits):
        if wait < 0:
            return index
    return None


def check_waits(waits):
    """Raise InvalidWait if a wait of the policy is negative."""
    index = first_negative(waits)
    if index is not None:
        raise InvalidWait(index)


def is_valid_layer(layer):
    """Return True if a layer of a nesting is valid, otherwise False."""
    if isinstance(layer, tuple):
        wait, count = layer
        return wait >= 0 and count >= 1
    return first_negative(layer) is None


def check_nesting(nesting):
    """Raise InvalidLayer for the first layer that is invalid."""
    for index, layer in enumerate(nesting):
        if not is_valid_layer(layer):
            raise InvalidLayer(index)

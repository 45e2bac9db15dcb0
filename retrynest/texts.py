"""The texts of nestings."""

BLOCK_DIGITS = 64
BLOCK = 10 ** 64


def show_number(number):
    """Return the decimal digits of a number, also of a very long one."""
    # Python itself refuses to write very long integers, but not their blocks.
    blocks = []
    rest = number
    while rest >= BLOCK:
        rest, block = divmod(rest, BLOCK)
        blocks.append(str(block).zfill(BLOCK_DIGITS))
    blocks.append(str(rest))
    return "".join(blocks[::-1])


def show_layer(layer):
    """Return the text of one layer."""
    if isinstance(layer, tuple):
        wait, count = layer
        return f"{show_number(wait)}x{show_number(count)}"
    if not layer:
        return "-"
    return ",".join([show_number(wait) for wait in layer])


def show_nesting(nesting):
    """Return the text of a nesting."""
    if not nesting:
        return "none"
    return " / ".join([show_layer(layer) for layer in nesting])

"""The errors of Retrynest.

No message contains the value: Python refuses to write very long integers.
"""


class RetryError(ValueError):
    """The base class of all errors of Retrynest."""


class InvalidWait(RetryError):
    """A wait is negative; `value` is its list index, from 0."""

    def __init__(self, value):
        super().__init__("a wait is negative")
        self.value = value


class InvalidLayer(RetryError):
    """A layer is invalid; `value` is its index in the nesting, from 0."""

    def __init__(self, value):
        super().__init__("a layer is invalid")
        self.value = value


class InvalidNumber(RetryError):
    """A number is not possible here; `value` is the number."""

    def __init__(self, value):
        super().__init__("a number is not possible here")
        self.value = value


class TooManyAttempts(RetryError):
    """A policy is too long to be written out; `value` is its attempts."""

    def __init__(self, value):
        super().__init__("a policy has too many attempts")
        self.value = value


class NoMoreAttempts(RetryError):
    """Too few attempts are left; `value` is how many are left."""

    def __init__(self, value):
        super().__init__("too few attempts are left")
        self.value = value


class Unreadable(RetryError):
    """No valid nesting has this text; `value` is the text."""

    def __init__(self, value):
        super().__init__("no valid nesting has this text")
        self.value = value

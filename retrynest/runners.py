"""Runners, which go through the attempts of a policy."""

from retrynest.errors import InvalidNumber, NoMoreAttempts
from retrynest.normal import merged, normal_form
from retrynest.policies import attempts
from retrynest.times import time_of, wait_at


class Runner:
    """Goes through the attempts of a policy, from attempt 0 on."""

    def __init__(self, nesting):
        # The normal form shares no list with the nesting, and it is the same
        # for each way to write the policy.
        self._nesting = normal_form(nesting)
        self._attempt = 0

    def __eq__(self, other):
        if not isinstance(other, Runner):
            return False
        return self._attempt == other._attempt and self._nesting == other._nesting

    def attempt(self):
        """Return the number of the present attempt."""
        return self._attempt

    def time(self):
        """Return the time of the present attempt."""
        return time_of(self._nesting, self._attempt)

    def left(self):
        """Return how many attempts come after the present one."""
        return attempts(self._nesting) - 1 - self._attempt

    def next_wait(self):
        """Return the wait after the present attempt, or None at the last one."""
        if self.left() == 0:
            return None
        return wait_at(self._nesting, self._attempt + 1)

    def fail(self, times=1):
        """Go on by so many attempts."""
        if times < 0:
            raise InvalidNumber(times)
        left = self.left()
        if times > left:
            raise NoMoreAttempts(left)
        self._attempt = self._attempt + times

    def wrap(self, layer):
        """Nest the policy in one more layer, as its outermost layer."""
        self._nesting = merged(self._nesting + normal_form([layer]))

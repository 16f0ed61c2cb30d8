"""The clock of a site, and the values that tell how old references may be."""


class Ages:
    """The clock, bound, settled, low and pending value of one site."""

    def __init__(self):
        self.clock = 0
        self.bound = 0
        self.settled = 0
        self.low = 0
        self.pending = None

    def lower_to(self, value):
        """Lower the site to this value (point 9)."""
        self.settled = min(self.settled, value)
        if self.pending is not None:
            self.pending = min(self.pending, value)
        self.low = min(self.low, self.settled)

    def await_settling(self):
        """Make the clock the pending value."""
        self.pending = self.clock

    def settle(self):
        """Make the pending value the settled one."""
        self.settled = self.pending
        self.pending = None

    def begin(self, wave, bound):
        """Take over the wave and its bound, begin a new low value and return the one before."""
        low = self.low
        self.clock = wave
        self.bound = bound
        self.low = self.settled
        return low

    def raise_bound(self, bound):
        """Make this value the bound if it is greater."""
        self.bound = max(self.bound, bound)

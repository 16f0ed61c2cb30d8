"""The channels of one site."""

from farheap.channels import Incoming, Outgoing
from farheap.errors import Unknown


class Mail:
    """The ends of the channels between one site and all others."""

    def __init__(self, number, sites):
        self._number = number
        # Ascending, as the packets and the letters for all other sites go.
        self.others = [other for other in range(sites) if other != number]
        self._outgoing = {other: Outgoing() for other in self.others}
        self._incoming = {other: Incoming() for other in self.others}

    def check_other(self, other):
        """Raise Unknown if there is no such other site."""
        if other not in self._outgoing:
            raise Unknown("there is no such other site")

    def put(self, other, letter):
        """Put a letter for another site."""
        self._outgoing[other].put(letter)

    def due_packets(self):
        """Return the packets of the letters that are not acknowledged, in their order."""
        return [(self._number, other, "data", number, letter)
                for other in self.others
                for number, letter in self._outgoing[other].due()]

    def accept_next(self, other, number):
        """Count the letter with this number from the other site if it is the next one, and return whether it is."""
        incoming = self._incoming[other]
        if not incoming.accepts(number):
            return False
        incoming.accept()
        return True

    def ack_packet(self, other):
        """Return the packet that tells the other site how many of its letters were accepted."""
        return (self._number, other, "ack", self._incoming[other].count, None)

    def acknowledge(self, other, number):
        """Take the letters for the other site with numbers up to this one as acknowledged."""
        self._outgoing[other].acknowledge(number)

    def put_counts(self):
        """Return a dict from each other site to the number of letters that were put for it."""
        return {other: self._outgoing[other].put_count for other in self.others}

    def has_acknowledged(self, counts):
        """Return whether as many letters are acknowledged as such a dict says."""
        return all([self._outgoing[other].acknowledged >= counts[other] for other in self.others])

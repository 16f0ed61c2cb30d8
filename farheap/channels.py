"""The two ends of a channel, and the network between them."""

from farheap.checks import check_index


class Outgoing:
    """The sending end of a channel."""

    def __init__(self):
        # An acknowledged letter is never sent again, so only the others are kept.
        self._letters = []
        self._acknowledged = 0

    def put(self, letter):
        """Put a letter into the channel and return its number."""
        self._letters.append(letter)
        return self.put_count

    def due(self):
        """Return the pairs (number, letter) of the letters that are not acknowledged."""
        return list(enumerate(self._letters, start=self._acknowledged + 1))

    def acknowledge(self, number):
        """Take the letters with numbers up to this one as acknowledged."""
        # Letters that are not put yet cannot have arrived, whatever the number says.
        reached = min(number, self.put_count)
        # A late packet may bring a smaller number than an earlier one.
        if reached > self._acknowledged:
            del self._letters[:reached - self._acknowledged]
            self._acknowledged = reached

    @property
    def put_count(self):
        """The number of letters that were put."""
        return self._acknowledged + len(self._letters)

    @property
    def acknowledged(self):
        """The number of letters that are acknowledged."""
        return self._acknowledged


class Incoming:
    """The receiving end of a channel."""

    def __init__(self):
        self.count = 0

    def accepts(self, number):
        """Return whether a letter with this number would be accepted now."""
        return number == self.count + 1

    def accept(self):
        """Count one more accepted letter."""
        self.count += 1


class Network:
    """The list of packets that are under way."""

    def __init__(self):
        self._packets = []

    def __len__(self):
        return len(self._packets)

    def __iter__(self):
        return iter(self._packets)

    def post(self, packet):
        """Add a packet to the end of the list."""
        self._packets.append(packet)

    def take_out(self, index):
        """Remove the packet with this index and return it."""
        check_index(index, len(self._packets), "packet")
        return self._packets.pop(index)

    def repeat(self, index):
        """Add the packet with this index to the end of the list once more."""
        check_index(index, len(self._packets), "packet")
        self._packets.append(self._packets[index])

    def packets(self):
        """Return the list of packets."""
        return list(self._packets)

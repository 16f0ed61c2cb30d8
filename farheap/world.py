"""The world: all sites, and the network between them."""

from farheap.channels import Network
from farheap.checks import check_index
from farheap.errors import Unknown
from farheap.sites import Site


class World:
    """A world with several sites, numbered from 0."""

    def __init__(self, sites):
        self._sites = [Site(number, sites) for number in range(sites)]
        self._network = Network()

    def _site(self, site):
        check_index(site, len(self._sites), "site")
        return self._sites[site]

    # Programs (point 10).

    def make(self, site, variable, *, size=0, mark=0):
        """Create an object, put its reference into the variable and return the reference."""
        return self._site(site).make(variable, size, mark)

    def assign(self, site, source, target):
        """Copy the contents of the variable source into the variable target."""
        self._site(site).assign(source, target)

    def reset(self, site, variable):
        """Set the variable to None."""
        self._site(site).reset(variable)

    def look(self, site, variable):
        """Return the mark of the near object to which the variable refers."""
        return self._site(site).look(variable)

    def read(self, site, variable, field, target):
        """Copy the contents of a field of a near object into the variable target."""
        self._site(site).read(variable, field, target)

    def write(self, site, variable, field, source):
        """Copy the contents of the variable source into a field of a near object."""
        self._site(site).write(variable, field, source)

    def give(self, site, variable, other):
        """Give the reference in the variable to another site."""
        self._site(site).give(variable, other)

    def take(self, site, variable):
        """Move the first reference of the inbox into the variable."""
        self._site(site).take(variable)

    def fetch(self, site, variable, field):
        """Ask for a field of the far object to which the variable refers."""
        self._site(site).fetch(variable, field)

    # Collecting and waves (points 13 to 17).

    def collect(self, site):
        """Let the site collect."""
        self._site(site).collect()

    def begin_wave(self):
        """Begin a wave and return True, or return False if one is open."""
        # A world may be made with fewer sites than the document speaks of: with none.
        return len(self._sites) > 0 and self._sites[0].begin_wave()

    # The network (point 6).

    def send(self, site):
        """Post the letters of the site that are not acknowledged."""
        for packet in self._site(site).mail.due_packets():
            self._network.post(packet)

    def deliver(self, index):
        """Deliver the packet with this index."""
        source, target, kind, number, letter = self._network.take_out(index)
        site = self._sites[target]
        if kind == "ack":
            site.acknowledge(source, number)
            return
        if site.mail.accept_next(source, number):
            site.accept(source, letter)
        self._network.post(site.mail.ack_packet(source))

    def lose(self, index):
        """Remove the packet with this index."""
        self._network.take_out(index)

    def repeat(self, index):
        """Add the packet with this index to the end of the list once more."""
        self._network.repeat(index)

    def packets(self):
        """Return the list of packets."""
        return self._network.packets()

    # Calm rounds (points 18 and 19).

    def flush(self):
        """Send and deliver until nothing is under way."""
        while len(self._network) > 0 or not self._all_acknowledged():
            for site in range(len(self._sites)):
                self.send(site)
            while len(self._network) > 0:
                self.deliver(0)

    def calm_round(self):
        """Let all sites collect, and site 0 begin a wave, and flush behind each."""
        for site in range(len(self._sites)):
            self.collect(site)
        self.flush()
        self.begin_wave()
        self.flush()

    def _all_acknowledged(self):
        return all([site.mail.has_acknowledged(site.mail.put_counts()) for site in self._sites])

    # What there is.

    def variables(self, site):
        """Return the list of the contents of the variables."""
        return list(self._site(site).variables)

    def inbox(self, site):
        """Return the list of the references that arrived, the earliest first."""
        return list(self._site(site).inbox)

    def objects(self, site):
        """Return the list of the numbers of the existing objects, ascending."""
        return sorted(self._site(site).objects.things)

    def fields(self, site, number):
        """Return the list of the contents of the fields of an object."""
        things = self._site(site).objects.things
        if number not in things:
            raise Unknown("there is no such object")
        return list(things[number].fields)

    def parcels(self, site):
        """Return the list of the tuples (parcel, other, reference), ascending."""
        things = self._site(site).parcels.things
        return [(parcel, other, reference) for parcel, (other, reference) in sorted(things.items())]

    def questions(self, site):
        """Return the list of the tuples (question, reference, field), ascending."""
        things = self._site(site).questions.things
        return [(question, reference, field) for question, (reference, field) in sorted(things.items())]

    def arrivals(self, site):
        """Return the list of the tuples (giver, parcel, reference, question), in the order in which they came."""
        return list(self._site(site).arrivals)

    def holdings(self, site):
        """Return the list of the tuples (reference, told), ascending."""
        holdings = self._site(site).holdings
        return [(reference, holdings[reference]) for reference in sorted(holdings)]

    def entries(self, site):
        """Return the list of the tuples (holder, number, stamp), ascending."""
        entries = self._site(site).entries
        return [(holder, number, entries[holder, number]) for holder, number in sorted(entries)]

    def clock(self, site):
        """Return the clock of the site."""
        return self._site(site).ages.clock

    def bound(self, site):
        """Return the bound of the site."""
        return self._site(site).ages.bound

    def settled(self, site):
        """Return the settled value of the site."""
        return self._site(site).ages.settled

    def low(self, site):
        """Return the low value of the site."""
        return self._site(site).ages.low

    def pending(self, site):
        """Return the pending value of the site, or None."""
        return self._site(site).ages.pending

    def live(self):
        """Return the list of the references of all live objects, ascending (point 20)."""
        found = {}
        waiting = [reference for site in self._sites for reference in site.roots()]
        while waiting:
            reference = waiting.pop()
            if reference is not None and reference not in found:
                found[reference] = True
                owner, number = reference
                waiting.extend(self._sites[owner].objects.things[number].fields)
        return sorted(found)

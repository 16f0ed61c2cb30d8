"""One site: what it keeps, and what it does."""

from farheap.ages import Ages
from farheap.checks import check_index
from farheap.errors import Empty, NotFar, NotNear
from farheap.mail import Mail
from farheap.numbered import Item, Numbered
from farheap.tracing import greatest

VARIABLES = 8


class Site:
    """What point 7 says that a site keeps. References are tuples (site, number) throughout."""

    def __init__(self, number, sites):
        self.number = number
        self.mail = Mail(number, sites)
        self.ages = Ages()
        self.objects = Numbered()
        self.variables = [None] * VARIABLES
        self.inbox = []
        # The tuples (other, reference).
        self.parcels = Numbered()
        # The tuples (reference, field).
        self.questions = Numbered()
        # The tuples (giver, parcel, reference, question).
        self.arrivals = []
        # From the reference to the told stamp.
        self.holdings = {}
        # From (holder, number) to the stamp.
        self.entries = {}
        # How many letters must be acknowledged before the site settles, for each channel.
        self._awaited = {}
        # The low values that are known of the open wave, none if no wave is open.
        self._noted = []
        self._waves = 0

    # Programs (point 10).

    def make(self, variable, size, mark):
        """Create an object, put its reference into the variable and return it."""
        self._check_variable(variable)
        reference = (self.number, self.objects.create(Item(size, mark)))
        self.variables[variable] = reference
        return reference

    def assign(self, source, target):
        """Copy the contents of a variable into another one."""
        self._check_variable(source)
        self._check_variable(target)
        self.variables[target] = self.variables[source]

    def reset(self, variable):
        """Set a variable to None."""
        self._check_variable(variable)
        self.variables[variable] = None

    def look(self, variable):
        """Return the mark of a near object."""
        self._check_variable(variable)
        return self._near_item(variable).mark

    def read(self, variable, field, target):
        """Copy the contents of a field of a near object into a variable."""
        self._check_variable(variable)
        self._check_variable(target)
        item = self._near_item(variable)
        item.check_field(field)
        self.variables[target] = item.fields[field]

    def write(self, variable, field, source):
        """Copy the contents of a variable into a field of a near object."""
        self._check_variable(variable)
        self._check_variable(source)
        item = self._near_item(variable)
        item.check_field(field)
        item.fields[field] = self.variables[source]

    def give(self, variable, other):
        """Give the reference in a variable to another site."""
        self._check_variable(variable)
        self.mail.check_other(other)
        self._hand_over(other, self._reference(variable), None)

    def take(self, variable):
        """Move the first reference of the inbox into a variable."""
        self._check_variable(variable)
        if not self.inbox:
            raise Empty("the inbox is empty")
        self.variables[variable] = self.inbox.pop(0)

    def fetch(self, variable, field):
        """Ask for a field of a far object."""
        self._check_variable(variable)
        reference = self._reference(variable)
        owner, number = reference
        if owner == self.number:
            raise NotFar("the reference in the variable is near")
        question = self.questions.create((reference, field))
        self.mail.put(owner, ("fetch", question, number, field))

    def _check_variable(self, variable):
        check_index(variable, VARIABLES, "variable")

    def _reference(self, variable):
        reference = self.variables[variable]
        if reference is None:
            raise Empty("the variable is None")
        return reference

    def _near_item(self, variable):
        owner, number = self._reference(variable)
        if owner != self.number:
            raise NotNear("the reference in the variable is far")
        return self.objects.things[number]

    def _hand_over(self, other, reference, question):
        parcel = self.parcels.create((other, reference))
        self.mail.put(other, ("give", parcel, reference, question))

    # Letters (points 11 and 12).

    def accept(self, sender, letter):
        """Handle a letter from another site."""
        match letter:
            case ("give", parcel, reference, question):
                self._accept_give(sender, parcel, reference, question)
            case ("enter", number, giver):
                self._accept_enter(sender, number, giver)
            case ("entered", number):
                self._accept_entered((sender, number))
            case ("got", parcel):
                self.parcels.drop(parcel)
            case ("leave", number):
                self.entries.pop((sender, number), None)
            case ("stamp", number, value):
                self._accept_stamp(sender, number, value)
            case ("fetch", question, number, field):
                self._accept_fetch(sender, question, number, field)
            case ("none", question):
                self.questions.drop(question)
            case ("ask", wave, bound):
                self._accept_ask(sender, wave, bound)
            case ("tell", _, low):
                self._note(low)

    def _accept_give(self, giver, parcel, reference, question):
        owner, number = reference
        if owner == self.number:
            self._lower_to_entry(giver, number)
            self._receive(giver, parcel, reference, question)
            return
        self.arrivals.append((giver, parcel, reference, question))
        if reference in self.holdings:
            self.holdings[reference] = None
        self.mail.put(owner, ("enter", number, giver))

    def _accept_enter(self, holder, number, giver):
        if giver != self.number:
            self._lower_to_entry(giver, number)
        self.entries[holder, number] = None
        self.mail.put(holder, ("entered", number))

    def _accept_entered(self, reference):
        giver, parcel, _, question = self._take_arrival(reference)
        self.holdings.setdefault(reference, None)
        self._receive(giver, parcel, reference, question)

    def _take_arrival(self, reference):
        index = 0
        while self.arrivals[index][2] != reference:
            index += 1
        return self.arrivals.pop(index)

    def _accept_stamp(self, holder, number, value):
        if (holder, number) not in self.entries:
            return
        stamp = self.entries[holder, number]
        if stamp is None or stamp < value:
            self._lower_to_entry(holder, number)
            self.entries[holder, number] = value

    def _accept_fetch(self, asker, question, number, field):
        self._lower_to_entry(asker, number)
        fields = self.objects.things[number].fields
        if field >= len(fields) or fields[field] is None:
            self.mail.put(asker, ("none", question))
        else:
            self._hand_over(asker, fields[field], question)

    def _accept_ask(self, asker, wave, bound):
        low = self.ages.begin(wave, bound)
        self.mail.put(asker, ("tell", wave, low))

    def _receive(self, giver, parcel, reference, question):
        self.inbox.append(reference)
        if question is not None:
            self.questions.drop(question)
        self.mail.put(giver, ("got", parcel))

    def _lower_to_entry(self, holder, number):
        # None is both a fresh stamp and no entry at all: neither lowers the site.
        stamp = self.entries.get((holder, number))
        if stamp is not None:
            self.ages.lower_to(stamp)

    # Collecting (points 13 to 15).

    def roots(self):
        """Return the references of the roots of the site."""
        contents = [reference for reference in self.variables if reference is not None]
        contents.extend(self.inbox)
        contents.extend([parcel[1] for parcel in self.parcels.things.values()])
        contents.extend([question[0] for question in self.questions.things.values()])
        contents.extend([arrival[2] for arrival in self.arrivals])
        return contents

    def collect(self):
        """Remove what no source reaches, and tell the owners of far references of the others."""
        self._drop_old_entries()
        objects, references = greatest(self._local_fields(), self._sources())
        self.objects.keep(objects)
        for reference in sorted(self.holdings):
            if reference in references:
                self._tell_owner(reference, references[reference])
            else:
                self._leave_owner(reference)
        self.ages.await_settling()
        self._awaited = self.mail.put_counts()
        self._settle_if_acknowledged()

    def acknowledge(self, other, number):
        """Take the letters for the other site with numbers up to this one as acknowledged."""
        self.mail.acknowledge(other, number)
        self._settle_if_acknowledged()

    def _drop_old_entries(self):
        self.entries = {key: stamp for key, stamp in self.entries.items()
                        if stamp is None or stamp >= self.ages.bound}

    def _local(self, reference):
        # In tracing a near reference is a bare number.
        if reference is not None and reference[0] == self.number:
            return reference[1]
        return reference

    def _local_fields(self):
        return {number: tuple([self._local(reference) for reference in item.fields])
                for number, item in self.objects.things.items()}

    def _sources(self):
        sources = [(self._local(reference), self.ages.clock) for reference in self.roots()]
        for (_, number), stamp in self.entries.items():
            sources.append((number, self.ages.clock if stamp is None else stamp))
        return sources

    def _tell_owner(self, reference, value):
        told = self.holdings[reference]
        if told is None:
            value = max(value, self.ages.settled)
        if told is None or told < value:
            self.holdings[reference] = value
            owner, number = reference
            self.mail.put(owner, ("stamp", number, value))

    def _leave_owner(self, reference):
        del self.holdings[reference]
        owner, number = reference
        self.mail.put(owner, ("leave", number))

    def _settle_if_acknowledged(self):
        if self.ages.pending is not None and self.mail.has_acknowledged(self._awaited):
            self.ages.settle()

    # Waves (points 16 and 17), which only site 0 begins.

    def begin_wave(self):
        """Begin a wave and return True, or return False if one is open."""
        if self._noted:
            return False
        self._waves += 1
        bound = self.ages.bound
        low = self.ages.begin(self._waves, bound)
        for other in self.mail.others:
            self.mail.put(other, ("ask", self._waves, bound))
        self._note(low)
        return True

    def _note(self, low):
        self._noted.append(low)
        # One low value of each site, this one included.
        if len(self._noted) > len(self.mail.others):
            self.ages.raise_bound(min(self._noted))
            self._noted = []

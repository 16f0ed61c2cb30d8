"""Things that get numbers, and the objects of a site, which are such things."""

from farheap.checks import check_index


class Numbered:
    """Things that are numbered from 0 in the order in which they are created."""

    def __init__(self):
        self.things = {}
        # Counted apart from the things: the number of one that is gone is not used again.
        self._created = 0

    def create(self, thing):
        """Keep one more thing and return its number."""
        number = self._created
        self.things[number] = thing
        self._created += 1
        return number

    def drop(self, number):
        """Remove the thing with this number."""
        del self.things[number]

    def keep(self, numbers):
        """Remove all things but those whose numbers are in the dict."""
        self.things = {number: thing for number, thing in self.things.items() if number in numbers}


class Item:
    """An object: its mark and the contents of its fields."""

    def __init__(self, size, mark):
        self.mark = mark
        self.fields = [None] * size

    def check_field(self, field):
        """Raise Unknown if there is no such field."""
        check_index(field, len(self.fields), "field")

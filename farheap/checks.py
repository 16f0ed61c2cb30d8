"""What several files of the package check in the same way."""

from farheap.errors import Unknown


def check_index(index, count, what):
    """Raise Unknown unless the index is one of the numbers from 0 that are below the count."""
    if index < 0 or index >= count:
        # The index is not shown: Python does not write out a very long integer.
        raise Unknown(f"there is no such {what}")

"""What the sources of a site reach."""


def reach(fields, start):
    """Return the list of the object numbers and the list of the far references that a source reaches."""
    objects, references = greatest(fields, [(start, 0)])
    return (sorted(objects), sorted(references))


def greatest(fields, sources):
    """Return dicts from the objects and far references that are reached to the greatest value that reaches each."""
    objects = {}
    references = {}
    # The greatest value goes first, so what is found keeps its value and is never entered again.
    for start, value in sorted(sources, key=lambda source: source[1], reverse=True):
        waiting = [start]
        while waiting:
            found = waiting.pop()
            if isinstance(found, tuple):
                references.setdefault(found, value)
            elif found in fields and found not in objects:
                objects[found] = value
                waiting.extend(fields[found])
    return (objects, references)

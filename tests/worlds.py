"""What several tests use: to see all of a world, and to move its letters by hand."""

from farheap.world import World

LISTS = ("variables", "inbox", "objects", "parcels", "questions", "arrivals", "holdings", "entries")
VALUES = ("clock", "bound", "settled", "low", "pending")


def site_shown(world, site):
    shown = {name: getattr(world, name)(site) for name in LISTS + VALUES}
    shown["fields"] = {number: world.fields(site, number) for number in shown["objects"]}
    return shown


def shown(world, sites):
    """Return everything that the world shows."""
    return {"packets": world.packets(), "live": world.live(),
            "sites": [site_shown(world, site) for site in range(sites)]}


def ages(world, site):
    return tuple(getattr(world, name)(site) for name in VALUES)


def under_way(world, source):
    """Return the pairs (target, letter) that the source would send, and change nothing. No packet may be there."""
    assert world.packets() == []
    world.send(source)
    found = [(packet[1], packet[4]) for packet in world.packets()]
    for _ in found:
        world.lose(0)
    return found


def carry(world, source, target, *, answered=True):
    """Bring the letters from source to target, with or without the answers, and return them. No packet may be there."""
    assert world.packets() == []
    world.send(source)
    letters = []
    for packet in world.packets():
        if packet[1] == target:
            world.deliver(0)
            letters.append(packet[4])
        else:
            world.lose(0)
    for _ in letters:
        if answered:
            world.deliver(0)
        else:
            world.lose(0)
    assert world.packets() == []
    return letters


def handed(world, source, variable, other, target):
    """Bring the reference in a variable of the source into a variable of the other site."""
    world.give(source, variable, other)
    world.flush()
    world.take(other, target)


def waved(world, count=1):
    """Let this many waves begin and end."""
    for _ in range(count):
        assert world.begin_wave()
        world.flush()


def collected(world, *sites):
    """Let the sites collect, one behind the other, and flush behind each."""
    for site in sites:
        world.collect(site)
        world.flush()


def busy_world():
    """Return a world with three sites of which every list has something in it, packets included."""
    world = World(3)
    world.make(0, 0, size=2, mark=7)
    world.make(0, 1, size=1)
    world.write(0, 0, 0, 1)
    handed(world, 0, 0, 1, 0)
    handed(world, 0, 0, 2, 0)
    world.make(1, 1, size=8, mark=-3)
    world.write(1, 1, 2, 0)
    waved(world, 2)
    collected(world, 1, 0)
    world.give(1, 1, 0)
    world.flush()
    world.give(1, 1, 2)
    carry(world, 1, 2)
    world.fetch(1, 0, 0)
    world.give(2, 0, 0)
    world.begin_wave()
    world.collect(2)
    world.send(0)
    world.send(2)
    return world

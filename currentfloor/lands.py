"""The lands between the ropes of a net, told by its turns."""


def other_end(end):
    """The other end of the same rope: 2 k and 2 k + 1 belong together."""
    return end + 1 if end % 2 == 0 else end - 1


def ends_ahead(turns):
    """A dict with, for each end, the one right ahead of it in its turn."""
    ahead = {}
    for turn in turns:
        for k, end in enumerate(turn):
            # A turn is a ring: ahead of the first stands the last, which is what the index -1 tells.
            ahead[end] = turn[k - 1]
    return ahead


def ring_from(start, ahead):
    """The land of the end start, beginning with it."""
    ring = [start]
    end = ahead[other_end(start)]
    while end != start:
        ring.append(end)
        end = ahead[other_end(end)]
    return tuple(ring)


def rings(turns):
    """The lands, each beginning with its least end, these rising."""
    ahead = ends_ahead(turns)
    seen = {}
    lands = []
    # The ends are asked rising, so the first one met of each land is its least.
    for start in range(len(ahead)):
        if start not in seen:
            ring = ring_from(start, ahead)
            for end in ring:
                seen[end] = True
            lands.append(ring)
    return tuple(lands)


def land_of(turns):
    """For each end the number of its land."""
    numbers = {}
    for number, ring in enumerate(rings(turns)):
        for end in ring:
            numbers[end] = number
    return tuple([numbers[end] for end in range(len(numbers))])

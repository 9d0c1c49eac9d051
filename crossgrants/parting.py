"""How the outlets' pointers part when all ask for all, with as many outlets as inlets and shares of 1."""


def heights(places):
    """How many outlets have each inlet as place."""
    return [places.count(inlet) for inlet in range(len(places))]


def next_heights(counts):
    """The heights behind one more beat.

    Each inlet that is some outlet's place is granted, and accepts one: that outlet's pointer goes on by one inlet.
    """
    moved = [1 if count > 0 else 0 for count in counts]
    coming = moved[-1:] + moved[:-1]
    return [count - gone + come for count, gone, come in zip(counts, moved, coming)]


def heights_behind(places, beats):
    """The heights behind so many beats."""
    counts = heights(places)
    for beat in range(beats):
        counts = next_heights(counts)
    return counts


def empty_ones(counts):
    """The inlets that none has, by their heights."""
    return [inlet for inlet, count in enumerate(counts) if count == 0]


def gaps(places):
    """The inlets that none has, rising."""
    return empty_ones(heights(places))


def closed(gap, places):
    """When and where this gap is closed: (gap, beats, inlet)."""
    many = len(places)
    beats = 1
    # A gap goes on by one inlet in each beat: it's closed when there is none where it should be by then. That is
    # behind fewer beats than there are inlets.
    while beats < many and heights_behind(places, beats)[(gap + beats) % many] == 0:
        beats += 1
    return (gap, beats, (gap + beats) % many)


def closing(places):
    """When and where each gap is closed: the list of (gap, beats, inlet), rising."""
    return [closed(gap, places) for gap in gaps(places)]


def pairs_in(places, beat):
    """How many pairs the first round has of the beat that comes behind so many."""
    return len(places) - len(empty_ones(heights_behind(places, beat)))

"""Deeds: what is done to a switch, told as tuples, tried, kept and undone."""

from crossgrants.errors import BadDeed
from crossgrants.kinds import are_unlike, is_between
from crossgrants.ways import INLET, OUTLET

LAST_PLACE = 20
MOST_COMING = 300
MOST_BEATS = 400


def is_deed_place(thing):
    """Whether it may stand in a deed as a place, be it there or not."""
    return is_between(thing, 0, LAST_PLACE)


def is_side(thing):
    """Whether it is the word of inlets or that of outlets."""
    return thing == INLET or thing == OUTLET


def are_outlets(thing):
    """Whether it is a tuple of one or more unlike places."""
    if not isinstance(thing, tuple) or len(thing) == 0:
        return False
    return all([is_deed_place(place) for place in thing]) and are_unlike(thing)


def is_come(parts):
    """Whether these parts stand behind the word of cells that come."""
    if len(parts) != 3:
        return False
    return is_deed_place(parts[0]) and is_deed_place(parts[1]) and is_between(parts[2], 1, MOST_COMING)


def is_wide(parts):
    """Whether these parts stand behind the word of a wide cell."""
    return len(parts) == 2 and is_deed_place(parts[0]) and are_outlets(parts[1])


def is_putting(parts):
    """Whether these parts stand behind the word of what is put out or in."""
    return len(parts) == 2 and is_side(parts[0]) and is_deed_place(parts[1])


def is_go(parts):
    """Whether these parts stand behind the word of beats."""
    return len(parts) == 1 and is_between(parts[0], 0, MOST_BEATS)


CHECKS = {"come": is_come, "wide": is_wide, "out": is_putting, "in": is_putting, "go": is_go}


def is_deed(thing):
    """Whether it is a deed."""
    if not isinstance(thing, tuple) or len(thing) == 0:
        return False
    word = thing[0]
    # Lists can't be looked up in a dict, so the word's kind is asked first.
    if not isinstance(word, str) or word not in CHECKS:
        return False
    check = CHECKS[word]
    return check(thing[1:])


def is_going(thing):
    """Whether it is a deed of beats."""
    return is_deed(thing) and thing[0] == "go"


def do_deed(switch, deed):
    """Does the deed to the switch; tells what the switch's method tells."""
    if not is_deed(deed):
        raise BadDeed(deed)
    word = deed[0]
    if word == "come":
        return switch.come(deed[1], deed[2], many=deed[3])
    if word == "wide":
        return switch.come_wide(deed[1], deed[2])
    if word == "out":
        return switch.put_out(deed[1], deed[2])
    if word == "in":
        return switch.put_in(deed[1], deed[2])
    return switch.go(deed[1])


def tried(switch, deeds, *, keep=False):
    """Does the deeds one by one, all of them or none; tells what each tells. They stand only where they are kept."""
    # A refused deed leaves the twin behind; the switch itself never went with it.
    twin = switch.like()
    told = [do_deed(twin, deed) for deed in deeds]
    if keep:
        switch.become(twin)
    return told


class Trial:
    """Deeds that are done one by one to a switch of its own, and may be undone."""

    def __init__(self, switch):
        self.stages = [switch.like()]
        self.standing = []

    def do(self, deed):
        """Does the deed; tells what do_deed tells."""
        stage = self.switch()
        told = do_deed(stage, deed)
        self.stages.append(stage)
        self.standing.append(deed)
        return told

    def undo(self):
        """Undoes the last deed that stands; tells whether there was one."""
        if not self.standing:
            return False
        self.stages.pop()
        self.standing.pop()
        return True

    def deeds(self):
        """The deeds that stand."""
        return list(self.standing)

    def switch(self):
        """A switch of the asker's own, as the deeds left it."""
        return self.stages[-1].like()

"""A beat, round by round: inlets ask, outlets grant, inlets accept."""

from crossgrants.errors import BadShares, BadSize
from crossgrants.kinds import is_between, is_list_or_tuple
from crossgrants.pairs import asks_left
from crossgrants.pointers import accepted, granted, passed
from crossgrants.tables import is_size, turned
from crossgrants.ways import ROUNDS

MOST_SHARE = 9


def is_share(thing):
    """Whether it may be the share of an inlet."""
    return is_between(thing, 1, MOST_SHARE)


def are_shares(thing, inlets):
    """Whether it is shares of an outlet for so many inlets."""
    return is_list_or_tuple(thing) and len(thing) == inlets and all([is_share(share) for share in thing])


def shares_for(inlets, outlets, shares):
    """The shares of each outlet, the asker's own; refused where they aren't such."""
    if shares is None:
        return [[1] * inlets for outlet in range(outlets)]
    if not is_list_or_tuple(shares) or len(shares) != outlets:
        raise BadShares(outlets)
    for outlet, thing in enumerate(shares):
        if not are_shares(thing, inlets):
            raise BadShares(outlet)
    return [list(row) for row in shares]


def grants_by(table, pointers):
    """What the outlets grant of these asks, by their pointers: a rising list of (outlet, inlet)."""
    grants = []
    for outlet, asking in enumerate(turned(table)):
        inlet = granted(asking, pointers[outlet])
        if inlet is not None:
            grants.append((outlet, inlet))
    return grants


def accepts_by(grants, places, outlets):
    """What the inlets accept of these grants, by their places: a rising list of (inlet, outlet)."""
    accepts = []
    for inlet, place in enumerate(places):
        granting = [1 if (outlet, inlet) in grants else 0 for outlet in range(outlets)]
        taken = accepted(granting, place)
        if taken is not None:
            accepts.append((inlet, taken))
    return accepts


def pairs_by(rounds):
    """All accepts of told rounds, rising."""
    return sorted([pair for grants, accepts in rounds for pair in accepts])


class Grants:
    """The pointers of outlets and the places of inlets, and the beats that move them."""

    def __init__(self, inlets, outlets, *, shares=None):
        if not is_size(inlets):
            raise BadSize("inlets")
        if not is_size(outlets):
            raise BadSize("outlets")
        self.inlets = inlets
        self.outlets = outlets
        self.shares = shares_for(inlets, outlets, shares)
        self.outlet_pointers = [(0, 0)] * outlets
        self.inlet_places = [0] * inlets

    def beat(self, table, *, rounds=ROUNDS):
        """A beat; tells its rounds, each as (grants, accepts)."""
        told = []
        left = table
        while len(told) < rounds:
            grants = grants_by(left, self.outlet_pointers)
            if not grants:
                break
            accepts = accepts_by(grants, self.inlet_places, self.outlets)
            # Were later rounds to move them, a pointer could pass an inlet that goes on asking.
            if not told:
                self.turn(accepts)
            told.append((grants, accepts))
            left = asks_left(left, accepts)
        return told

    def turn(self, accepts):
        """Moves the pointers and the places of those that were accepted, and that accepted."""
        for inlet, outlet in accepts:
            self.outlet_pointers[outlet] = passed(self.outlet_pointers[outlet], inlet, self.shares[outlet])
            self.inlet_places[inlet] = (outlet + 1) % self.outlets

    def pointers(self):
        """The pointer of each outlet."""
        return list(self.outlet_pointers)

    def places(self):
        """The place of each inlet."""
        return list(self.inlet_places)

    def like(self):
        """A Grants of its own, the same."""
        twin = Grants(self.inlets, self.outlets, shares=self.shares)
        twin.outlet_pointers = self.pointers()
        twin.inlet_places = self.places()
        return twin

    def __eq__(self, other):
        return (
            isinstance(other, Grants)
            and self.inlets == other.inlets
            and self.outlets == other.outlets
            and self.shares == other.shares
            and self.outlet_pointers == other.outlet_pointers
            and self.inlet_places == other.inlet_places
        )

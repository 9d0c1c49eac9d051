"""The names of settings that several files share."""

ROUNDS = 4

GRANTS = "grants"
FIRST = "first"

EVEN = "even"
EARLY = "early"
LATE = "late"

INLET = "inlet"
OUTLET = "outlet"

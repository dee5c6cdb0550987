"""How large a machine may be (points [8] and [12])."""

MOST_STEPS = 80
MOST_LEAVING = 8
MOST_WORDS = 14
MOST_FAULTS = 3
MOST_PAIRS = 100

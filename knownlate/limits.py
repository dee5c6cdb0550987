"""How large machines, counts and searches may be, as the points of the document say."""

MOST_STEPS = 80
MOST_LEAVING = 8
MOST_WORDS = 14
MOST_FAULTS = 3
MOST_PAIRS = 100
MOST_WATCHES = 3
MOST_SIGHTS = 8
MOST_ESTIMATES = 2000
MOST_MET = 5000
MOST_RANK = 5000
MOST_BEHIND = 100

"""The numbers by which a call is refused; -1 is not among them, since every call is handed in as its form asks."""

OUT_OF_RANGE = -2
NO_CARRIER = -3
NOT_THERE = -4
THERE_ALREADY = -5
FULL = -6
NOT_AS_NEEDED = -7
NOT_FITTING = -8

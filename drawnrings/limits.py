"""The greatest numbers that cloths, scripts, claims and exchanges may have."""

MOST_CLOTH = 9
MOST_MOVES = 10
MOST_NAMED = 5
MOST_PLACE = 99
MOST_LOOKED = 3000
MOST_EXCHANGES = 5

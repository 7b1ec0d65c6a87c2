"""The numbers of the refusals, in the order in which they are told where several are due."""

BAD_NUMBER = -1
WON = -2
TOO_MANY_WAYS = -3
FULL = -4
NOT_THERE = -5
NO_SUCH_BLOCK = -6
NONE_PLAYED = -7

"""The bounds that reckonings and steps keep."""

MOST = 2000
GREATEST = 400
DEEPEST = 40

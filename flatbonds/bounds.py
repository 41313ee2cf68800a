"""The bounds that the document names."""

MAX_SPOTS = 14
MAX_TIES = 28
MAX_FAR = 60
MAX_LISTED = 1000
MAX_OUT = 2
MAX_MOVED = 7
MAX_WAYS = 150
MAX_EDITS = 40
BATCH = 12

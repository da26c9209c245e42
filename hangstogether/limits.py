"""The limits of the program."""

# Ends and picks of a cloth, shafts and treadles of a loom.
MAX_ENDS = 24
MAX_PICKS = 24
MAX_SHAFTS = 16
MAX_TREADLES = 16

# Characters of a name or a colour, and of a text.
MAX_NAME = 12
MAX_TEXT = 8000

# Rows of choices, and rows of ties.
MAX_CHOICES = 400
MAX_TIES = 200

# Ends and picks of a piece that is cut, and pairs of crossings.
MAX_PIECE = 8
MAX_PAIRS = 40

MAX_JOBS = 9

# Chains of pegs within one another.
MAX_DEEP = 8

MAX_UNITS = 8

# Cloths one above the other.
MAX_STACK = 4

# Picks, ends and equal digits of pieces that are counted.
MAX_ROWS = 12
MAX_COUNTED = 4
MAX_FLOAT = 3

# Entries of a log, and picks on a loom.
MAX_LOG = 200
MAX_WOVEN = 200

MAX_FAULTS = 3

# Measures, repeats, coins and the length of a cone, lengths and cones.
MAX_GAP = 1000
MAX_REPEATS = 100
MAX_COIN = 1000000
MAX_LENGTHS = 8
MAX_CONES = 8

# Ends of a cloth whose nearest one is looked for.
MAX_NEAR = 7

MAX_CARDS = 16

# Stitches, and ends and picks of a piece that is stitched.
MAX_STITCHES = 3
MAX_STITCHED = 4

# Colours and holders.
MAX_HELD = 6

# Boxes at a side, shuttles and wefts.
MAX_BOXES = 3
MAX_SHUTTLES = 3
MAX_WEFTS = 6

# The greatest grey.
MAX_GREY = 255

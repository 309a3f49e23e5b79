"""The numbers and words that the whole program shares."""

LONGEST = 4000
ROOM = 8
BROKEN = 99
FULL = 98

# The feed and the return, as bytes and as signs; FEED and RETURN below are the words for ways with line ends.
LINE_FEED = 10
LINE_RETURN = 13

PLAIN = "plain"
STEPS = "steps"
WIDE = "wide"
TURN = "turn"

ANY = "any"
KEPT = "kept"
FEED = "feed"
RETURN = "return"
BOTH = "both"

STRICT = "strict"
MARK = "mark"

# The sign by which a wrong byte is told, by mark.
WRONG_SIGN = 65533

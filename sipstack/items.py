"""Items: the signs of a row as they are read, each with the place and the state behind it."""

from sipstack.codes import check_code, first_state, may_go_on, read_sign, write_signs
from sipstack.ends import check_ends, ends_line, written_ends
from sipstack.errors import BadCode, NoWay
from sipstack.words import ANY, BOTH, KEPT, LINE_FEED, LINE_RETURN, MARK, STEPS, STRICT, WRONG_SIGN


def read_items(row, place, state, *, code=STEPS, ends=ANY, wrong=STRICT):
    """A list of tuples (sign, place, state)."""
    check_ways(code, ends, wrong)
    scan = Scan(place, state, code=code, ends=ends, wrong=wrong)
    scan.go_on(row, True)
    return scan.found


def decoded(row, *, code=STEPS, ends=ANY, wrong=STRICT):
    """The signs of a whole row, read from its beginning in the first state."""
    check_ways(code, ends, wrong)
    scan = Scan(0, first_state(code), code=code, ends=ends, wrong=wrong)
    scan.go_on(row, True)
    if scan.bad is not None:
        raise BadCode(scan.bad)
    return signs_of(scan.found)


def encoded(signs, *, code=STEPS, ends=ANY):
    """The row of signs that are written from the first state on."""
    check_code(code)
    row, state = write_signs(written_ends(signs, ends=ends), first_state(code), code=code)
    return row


def check_ways(code, ends, wrong):
    check_code(code)
    check_ends(ends)
    if wrong not in (STRICT, MARK):
        raise NoWay(wrong)


def signs_of(found):
    return [sign for sign, place, state in found]


def sure_sign(row, place, state, code, whole):
    """As read_sign tells; but the word is open where bytes behind the row's end could change what is told."""
    word, sign, behind, state_there = read_sign(row, place, state, code=code)
    if not whole and (word == "end" or word == "wrong" and may_go_on(row, behind - 1, code)):
        return ("open", 0, place, state)
    return (word, sign, behind, state_there)


class Scan:
    """Reads items from a place on, as far as the bytes that came settle them.

    It asks for most items (None: for all) or, by_line, for those up to a line's end. What it found stays found when
    further bytes come: an item that these could change is not found yet.
    """

    def __init__(self, place, state, *, code, ends, wrong, most=None, by_line=False):
        self.spot = place
        self.state = state
        self.code = code
        self.ends = ends
        self.wrong = wrong
        self.most = most
        self.by_line = by_line
        self.found = []
        # Where the wrong byte lies that ended the items, by strict.
        self.bad = None
        # Whether all that was asked for is found.
        self.full = False

    def go_on(self, row, whole):
        """Find what the row settles; whole tells that nothing comes behind its end."""
        while not self.full and self.find_one(row, whole):
            pass

    def find_one(self, row, whole):
        """Whether one more item was found."""
        word, sign, place, state = sure_sign(row, self.spot, self.state, self.code, whole)
        if word == "wrong":
            return self.pass_wrong(place, state)
        if word != "sign":
            return False
        if sign != LINE_RETURN or not self.looks_behind_return():
            self.note_item(sign, place, state, False)
            return True
        word, follower, place_behind, state_there = sure_sign(row, place, state, self.code, whole)
        if word == "open":
            return False
        feed_follows = word == "sign" and follower == LINE_FEED
        if self.ends != ANY:
            self.note_item(sign, place, state, feed_follows)
        elif feed_follows:
            self.note_item(LINE_FEED, place_behind, state_there, False)
        else:
            self.note_item(LINE_FEED, place, state, False)
        return True

    def pass_wrong(self, place, state):
        if self.wrong == STRICT:
            self.bad = place - 1
            return False
        self.note_item(WRONG_SIGN, place, state, False)
        return True

    def looks_behind_return(self):
        """Whether what follows a return tells which item it is, or whether a line ends with it."""
        if self.ends == ANY:
            return True
        last_one = self.most is not None and len(self.found) + 1 == self.most
        return self.by_line and self.ends in (KEPT, BOTH) and not last_one

    def note_item(self, sign, place, state, feed_follows):
        before = self.found[-1][0] if self.found else None
        self.found.append((sign, place, state))
        self.spot = place
        self.state = state
        ended = self.by_line and ends_line(sign, before, feed_follows, self.ends)
        self.full = ended or len(self.found) == self.most

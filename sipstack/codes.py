"""The four codes: how signs are written as bytes, and how one sign is read."""

from sipstack.checks import is_whole
from sipstack.errors import NoCode, NoSign
from sipstack.words import PLAIN, STEPS, TURN, WIDE

# The states of wide; its first state is 0.
LOW_FIRST = 1
HIGH_FIRST = 2
HIGH_MARK = (254, 255)
LOW_MARK = (255, 254)

# A byte from here on turns to a page, in turn.
TURNING = 128


def first_state(code):
    check_code(code)
    return 0


def read_sign(row, place, state, *, code=STEPS):
    """A tuple (word, sign, place, state): the word is sign, wrong or end."""
    check_code(code)
    begin, state_there = gone_through(row, place, state, code)
    if begin >= len(row):
        return ("end", 0, place, state)
    sign, many = sign_at(row, begin, state_there, code)
    if many == 0:
        return ("wrong", 0, begin + 1, state_there)
    return ("sign", sign, begin + many, state_there)


def write_signs(signs, state, *, code=STEPS):
    """A tuple (row, state): the writings of the signs joined, and the state behind them."""
    check_code(code)
    last = last_sign(code)
    row = []
    for sign in signs:
        if not is_whole(sign) or not 0 <= sign <= last:
            raise NoSign(sign)
        writing, state = sign_writing(sign, state, code)
        row.extend(writing)
    return (row, state)


def check_code(code):
    if code not in (PLAIN, STEPS, WIDE, TURN):
        raise NoCode(code)


def last_sign(code):
    if code == STEPS:
        return 2097151
    if code == WIDE:
        return 65535
    if code == TURN:
        return 16383
    return 255


def gone_through(row, place, state, code):
    """The place and the state behind a mark or turning bytes that come first."""
    if code == TURN:
        return behind_turning(row, place, state)
    if code == WIDE and state == 0:
        return behind_mark(row, place)
    return (place, state)


def behind_turning(row, place, state):
    while place < len(row) and row[place] >= TURNING:
        state = row[place] - TURNING
        place += 1
    return (place, state)


def behind_mark(row, place):
    first_two = tuple(row[place:place + 2])
    if first_two == HIGH_MARK:
        return (place + 2, HIGH_FIRST)
    if first_two == LOW_MARK:
        return (place + 2, LOW_FIRST)
    return (place, HIGH_FIRST)


def may_go_on(row, begin, code):
    """Whether further bytes could make a sign of those from begin on, which are the row's last and no whole writing."""
    if code == WIDE:
        return True
    if code != STEPS:
        return False
    many = steps_lead(row[begin])[0]
    # The greatest following bytes: where they make no sign of its own, no others do.
    missing = many - (len(row) - begin)
    if missing <= 0:
        return False
    return steps_sign_at(row[begin:] + [191] * missing, 0)[1] > 0


def bytes_for_state(size, code):
    """How many of the first bytes of a row of this size tell the state behind all of it."""
    if code == TURN:
        return size
    if code == WIDE:
        return min(2, size)
    return 0


def state_behind(head, code):
    """The state behind a row, of which so many first bytes are handed in, marks and turning bytes gone through."""
    if code == WIDE and head:
        return behind_mark(head, 0)[1]
    state = 0
    if code == TURN:
        for byte in head:
            if byte >= TURNING:
                state = byte - TURNING
    return state


def sign_at(row, begin, state, code):
    """A tuple (sign, how many bytes its writing has), of no bytes where no writing begins there."""
    if code == STEPS:
        return steps_sign_at(row, begin)
    if code == WIDE:
        return wide_sign_at(row, begin, state)
    if code == TURN:
        return (128 * state + row[begin], 1)
    return (row[begin], 1)


def steps_sign_at(row, begin):
    many, base = steps_lead(row[begin])
    writing = row[begin:begin + many]
    sign = row[begin] - base
    for byte in writing[1:]:
        sign = 64 * sign + byte - 128
    # Wrong following bytes, too few of them and a longer writing than the sign's own all show by this.
    if steps_writing(sign) != writing:
        return (0, 0)
    return (sign, many)


def steps_lead(lead):
    """How many bytes a writing with this leading byte has (0: none begins so), and what is added to the lead."""
    if lead < 128:
        return (1, 0)
    if lead < 192:
        return (0, 0)
    if lead < 224:
        return (2, 192)
    if lead < 240:
        return (3, 224)
    if lead < 248:
        return (4, 240)
    return (0, 0)


def wide_sign_at(row, begin, state):
    if begin + 2 > len(row):
        return (0, 0)
    if state == LOW_FIRST:
        return (row[begin] + 256 * row[begin + 1], 2)
    return (256 * row[begin] + row[begin + 1], 2)


def sign_writing(sign, state, code):
    """A tuple (the bytes of the sign written in this state, the state behind them)."""
    if code == STEPS:
        return (steps_writing(sign), state)
    if code == WIDE:
        return wide_writing(sign, state)
    if code == TURN:
        return turn_writing(sign, state)
    return ([sign], state)


def steps_writing(sign):
    if sign < 128:
        return [sign]
    if sign < 2048:
        return [192 + sign // 64, 128 + sign % 64]
    if sign < 65536:
        return [224 + sign // 4096, 128 + sign // 64 % 64, 128 + sign % 64]
    return [240 + sign // 262144, 128 + sign // 4096 % 64, 128 + sign // 64 % 64, 128 + sign % 64]


def wide_writing(sign, state):
    if state == LOW_FIRST:
        return ([sign % 256, sign // 256], LOW_FIRST)
    writing = [sign // 256, sign % 256]
    if state == HIGH_FIRST:
        return (writing, HIGH_FIRST)
    return ([*HIGH_MARK, *writing], HIGH_FIRST)


def turn_writing(sign, state):
    page = sign // 128
    if page == state:
        return ([sign % 128], page)
    return ([TURNING + page, sign % 128], page)

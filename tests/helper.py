"""What several test files share."""

from sipstack.errors import SipError


def outcome(call, *handed, **named):
    """("told", what was told), or ("refused", the class's name, the values that the refusal keeps)."""
    try:
        return ("told", call(*handed, **named))
    except SipError as error:
        return ("refused", type(error).__name__, vars(error))


def told(what):
    return ("told", what)


def refused(name, **values):
    return ("refused", name, values)


FAULT_7 = refused("Fault", number=7, taken=0)
STALLED = refused("Stalled", taken=0)

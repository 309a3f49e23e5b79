"""Line ends: the five ways with them, how they are written, and what ends a line that is read."""

from sipstack.errors import NoEnds
from sipstack.words import ANY, BOTH, FEED, KEPT, LINE_FEED, LINE_RETURN, RETURN


def written_ends(signs, *, ends=ANY):
    """The text as it is written: a new list, in which each feed is written by the way."""
    feed = written_feed(ends)
    told = []
    for sign in signs:
        if sign == LINE_FEED:
            told.extend(feed)
        else:
            told.append(sign)
    return told


def written_feed(ends):
    if ends == RETURN:
        return [LINE_RETURN]
    if ends == BOTH:
        return [LINE_RETURN, LINE_FEED]
    if ends == ANY or ends == KEPT or ends == FEED:
        return [LINE_FEED]
    raise NoEnds(ends)


def check_ends(ends):
    written_feed(ends)


def ends_line(sign, before, feed_follows, ends):
    """Whether a sign ends the line, as it is read: before is the sign straight ahead of it, None at the beginning."""
    if ends == RETURN:
        return sign == LINE_RETURN
    if ends == BOTH:
        return sign == LINE_FEED and before == LINE_RETURN
    if ends == KEPT and sign == LINE_RETURN:
        return not feed_follows
    return sign == LINE_FEED

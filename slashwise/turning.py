"""Readings that are turned, node by node, up to a plain one."""


def turned_at_top(reading):
    """What comes of a reading that is turned at its top, or None where it may not be turned there."""
    if reading[0] == "word":
        return None
    sign, left, right = reading
    if sign in (">", ">>") and left[0] == ">>":
        return (sign, left[1], (sign, left[2], right))
    if sign in ("<", "<<") and right[0] == "<<":
        return (sign, (sign, left, right[1]), right[2])
    return None


def turned(reading):
    """What comes of a reading by one turn, at a node ahead of what is in it, or None where it is plain."""
    told = turned_at_top(reading)
    if told is not None or reading[0] == "word":
        return told
    sign, left, right = reading
    told = turned(left)
    if told is not None:
        return (sign, told, right)
    told = turned(right)
    if told is not None:
        return (sign, left, told)
    return None


def is_plain(reading):
    """Whether a reading may be turned nowhere."""
    return turned(reading) is None


def turns(reading):
    """The reading, then each by one turn of the one ahead, up to a plain one."""
    told = [reading]
    behind = turned(reading)
    while behind is not None:
        told.append(behind)
        behind = turned(behind)
    return told

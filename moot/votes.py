"""What a vote must be for a motion to be kept."""


def is_kept(need, ayes, noes):
    """Tell whether a vote of so many ayes and noes is what is needed."""
    if ayes <= noes:
        # Two thirds is more, too: no votes at all are neither.
        return False
    return need == "more" or ayes >= 2 * noes

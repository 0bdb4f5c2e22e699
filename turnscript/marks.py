"""How marks are seen, and at which edges the signs beside a place end and begin."""

from turnscript.errors import NoMark
from turnscript.seeing import longest_rows, seen_at


def pieces(levels, first, behind):
    """Tell the pieces in which a mark is seen, from the left, as tuples (first, behind)."""
    if not 0 <= first <= behind <= len(levels):
        raise NoMark("the two places are no mark of these levels")
    return longest_rows(sorted(seen_at(levels)[first:behind]))


def begin_edge(level, seen):
    """Tell the edge at which a sign begins that is seen at the given place."""
    return seen if level % 2 == 0 else seen + 1


def end_edge(level, seen):
    """Tell the edge at which a sign ends that is seen at the given place."""
    return seen + 1 if level % 2 == 0 else seen


def carets(levels):
    """Tell for each place the edge where the sign ahead ends and the one where its own sign begins."""
    seen_places = seen_at(levels)
    ends = [end_edge(level, seen) for level, seen in zip(levels, seen_places)]
    begins = [begin_edge(level, seen) for level, seen in zip(levels, seen_places)]
    return list(zip([None] + ends, begins + [None]))

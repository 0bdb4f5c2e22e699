"""The order in which written places are seen from the left."""

from turnscript.levels import sign_levels


def longest_rows(places):
    """Tell the longest rows of neighbours among rising places, as tuples (first, behind)."""
    told = []
    for place in places:
        if told and told[-1][1] == place:
            told[-1] = (told[-1][0], place + 1)
        else:
            told.append((place, place + 1))
    return told


def turned_about(row, first, behind):
    """Tell the row with what stands from first up to behind turned about where it stands."""
    return row[:first] + list(reversed(row[first:behind])) + row[behind:]


def order(levels):
    """Tell the written places in the order in which they are seen."""
    told = list(range(len(levels)))
    for least in range(max(levels, default=0), 0, -1):
        # Turns so far stayed within rows of higher levels, so the rows of this one
        # still lie where they were written.
        high = [place for place, level in enumerate(levels) if level >= least]
        for first, behind in longest_rows(high):
            told = turned_about(told, first, behind)
    return told


def seen_at(levels):
    """Tell for each written place the place at which it is seen."""
    told = [0] * len(levels)
    for seen, place in enumerate(order(levels)):
        told[place] = seen
    return told


def view(text, base):
    """Tell the text with its signs in the order in which they are seen."""
    return "".join([text[place] for place in order(sign_levels(text, base))])

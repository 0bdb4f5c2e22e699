"""A row of levels cut into lines, each seen by itself."""

from turnscript.errors import NoCut
from turnscript.seeing import order


def check_cuts(count, cuts):
    """Refuse cuts that are no cuts of a row of so many levels."""
    ahead = 0
    for cut in cuts:
        if cut <= ahead or cut >= count:
            raise NoCut("cuts rise, each from 1 to one less than the number of levels")
        ahead = cut


def lines(levels, cuts):
    """Tell for each line the places of the text in the order in which they are seen."""
    check_cuts(len(levels), cuts)
    edges = [0] + cuts + [len(levels)]
    told = []
    for first, behind in zip(edges, edges[1:]):
        told.append([first + place for place in order(levels[first:behind])])
    return told

"""The side and the level of each sign of a text."""

from turnscript.stretches import grounds, kind, stretches


def ground_side(ground):
    """Tell the side of a stretch by its ground."""
    return "east" if ground % 2 == 0 else "west"


def fixed_sides(text, numbers, own):
    """Tell the side of each letter and figure, and None for each sign between."""
    latest = list(own)
    told = []
    for sign, number in zip(text, numbers):
        what = kind(sign)
        if what == "east" or what == "west":
            latest[number] = what
            told.append(what)
        elif what == "figure":
            told.append(latest[number])
        else:
            told.append(None)
    return told


def sides_ahead(fixed, numbers, own):
    """Tell for each sign the side of the nearest letter or figure ahead of it in its stretch."""
    # The stretch's own side stands for a letter or figure that is not there.
    latest = list(own)
    told = []
    for side, number in zip(fixed, numbers):
        told.append(latest[number])
        if side is not None:
            latest[number] = side
    return told


def sides_behind(fixed, numbers, own):
    """Tell for each sign the side of the nearest letter or figure behind it in its stretch."""
    told = sides_ahead(list(reversed(fixed)), list(reversed(numbers)), own)
    return list(reversed(told))


def side_between(ahead, behind, own_side):
    """Tell the side of a sign between."""
    return ahead if ahead == behind else own_side


def sides(text, base):
    """Tell the side of each sign."""
    numbers = stretches(text, base)
    own = [ground_side(ground) for ground in grounds(text, base)]
    fixed = fixed_sides(text, numbers, own)
    ahead = sides_ahead(fixed, numbers, own)
    behind = sides_behind(fixed, numbers, own)
    told = []
    for place, side in enumerate(fixed):
        if side is None:
            told.append(side_between(ahead[place], behind[place], own[numbers[place]]))
        else:
            told.append(side)
    return told


def sign_level(sign, side, ground):
    """Tell the level of a sign of the given side in a stretch of the given ground."""
    level = ground if side == ground_side(ground) else ground + 1
    if kind(sign) == "figure":
        return level + level % 2
    return level


# Files whose functions take levels as a parameter draw this name, which can't be mistaken for it.
def sign_levels(text, base):
    """Tell the level of each sign."""
    found = grounds(text, base)
    numbers = stretches(text, base)
    told = []
    for sign, side, number in zip(text, sides(text, base), numbers):
        told.append(sign_level(sign, side, found[number]))
    return told


def levels(text, base):
    """Tell the level of each sign."""
    return sign_levels(text, base)

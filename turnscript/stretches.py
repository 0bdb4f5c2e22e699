"""The kinds of signs, and the stretches that openers and closers make of a text."""

GREATEST_GROUND = 6


def kind(sign):
    """Tell what a sign is: a letter of a side, a figure, an opener, the closer or a sign between."""
    if "a" <= sign <= "z":
        return "east"
    if "A" <= sign <= "Z":
        return "west"
    if "0" <= sign <= "9":
        return "figure"
    if sign == "{" or sign == "[":
        return "open"
    if sign == "|":
        return "close"
    return "between"


def ground_within(opener, ground):
    """Tell the ground that the opener asks for within a stretch of the given ground."""
    wanted = 0 if opener == "{" else 1
    return ground + 2 if ground % 2 == wanted else ground + 1


def walk(text, base):
    """Tell the stretch of each sign and the ground of each stretch, as a tuple of two lists."""
    numbers = []
    found = [base]
    # An opener that opens none puts the number of the open stretch here once more:
    # so its closer takes away this alone, and the same stretch stays open.
    nested = [0]
    for sign in text:
        what = kind(sign)
        if what == "close" and len(nested) > 1:
            nested.pop()
        here = nested[-1]
        numbers.append(here)
        if what == "open":
            ground = ground_within(sign, found[here])
            if ground <= GREATEST_GROUND:
                found.append(ground)
                nested.append(len(found) - 1)
            else:
                nested.append(here)
    return (numbers, found)


def stretches(text, base):
    """Tell for each sign the number of the stretch in which it stands."""
    return walk(text, base)[0]


def grounds(text, base):
    """Tell the ground of each stretch, by the numbers of the stretches."""
    return walk(text, base)[1]

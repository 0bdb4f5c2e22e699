"""Points 3 to 7 and 9 to 11 told word by word, place by place: slow, and in no way like the program."""

import itertools

EAST = "abcdefghijklmnopqrstuvwxyz"
WEST = "ABCDEFGHIJKLMNOPQRSTUVWXYZ"
FIGURES = "0123456789"


def even(number):
    return number % 2 == 0


def least_above(ground, wanted_even):
    return min(n for n in range(ground + 1, ground + 3) if even(n) == wanted_even)


class Opened:
    def __init__(self, place, ground):
        self.place = place
        self.ground = ground
        self.closed = False


def close_one(found, empty):
    last = [s for s in found if not s.closed][-1]
    waiting = [e for e in empty if not e.closed and e.place > last.place]
    if waiting:
        waiting[-1].closed = True
    elif last is not found[0]:
        last.closed = True


def stand(text, base):
    """The stretch of each sign, and the ground of each stretch."""
    found = [Opened(-1, base)]
    empty = []
    numbers = []
    for place, sign in enumerate(text):
        if sign == "|":
            close_one(found, empty)
        number = max(n for n, s in enumerate(found) if not s.closed)
        numbers.append(number)
        if sign in "{[":
            ground = least_above(found[number].ground, sign == "{")
            (empty if ground > 6 else found).append(Opened(place, ground))
    return numbers, [s.ground for s in found]


def letter_or_figure_side(text, numbers, own, place):
    """The side of a letter or a figure; None for a sign between."""
    if text[place] in EAST:
        return "east"
    if text[place] in WEST:
        return "west"
    if text[place] in FIGURES:
        ahead = [q for q in range(place) if numbers[q] == numbers[place] and text[q] in EAST + WEST]
        return letter_or_figure_side(text, numbers, own, ahead[-1]) if ahead else own[numbers[place]]
    return None


def side(text, numbers, own, place):
    fixed = letter_or_figure_side(text, numbers, own, place)
    if fixed is not None:
        return fixed
    among = [q for q in range(len(text)) if numbers[q] == numbers[place] and text[q] in EAST + WEST + FIGURES]
    ahead = [letter_or_figure_side(text, numbers, own, q) for q in among if q < place]
    behind = [letter_or_figure_side(text, numbers, own, q) for q in among if q > place]
    stretch_side = own[numbers[place]]
    both = {ahead[-1] if ahead else stretch_side, behind[0] if behind else stretch_side}
    return both.pop() if len(both) == 1 else stretch_side


def sides(text, base):
    numbers, found = stand(text, base)
    own = ["east" if even(ground) else "west" for ground in found]
    return [side(text, numbers, own, place) for place in range(len(text))]


def levels(text, base):
    numbers, found = stand(text, base)
    told = []
    for place, own_side in enumerate(sides(text, base)):
        ground = found[numbers[place]]
        level = ground if (own_side == "east") == even(ground) else ground + 1
        if text[place] in FIGURES:
            level = min(n for n in (level, level + 1) if even(n))
        told.append(level)
    return told


def order(levels):
    """Turn the places as they stand by then, not as they were written."""
    standing = list(enumerate(levels))
    for least in range(max([0] + levels), 0, -1):
        turned = []
        for high, group in itertools.groupby(standing, lambda one: one[1] >= least):
            row = list(group)
            turned += row[::-1] if high else row
        standing = turned
    return [place for place, _ in standing]


def seen_at(levels):
    seen = order(levels)
    return [seen.index(place) for place in range(len(levels))]


def view(text, base):
    return "".join(text[place] for place in order(levels(text, base)))


def pieces(levels, first, behind):
    seen = set(seen_at(levels)[first:behind])
    firsts = [v for v in sorted(seen) if v - 1 not in seen]
    lasts = [v for v in sorted(seen) if v + 1 not in seen]
    return [(v, last + 1) for v, last in zip(firsts, lasts)]


def carets(levels):
    begins, ends = {}, {}
    for place, seen in enumerate(seen_at(levels)):
        left, right = seen, seen + 1
        begins[place], ends[place] = (left, right) if even(levels[place]) else (right, left)
    return [(ends.get(p - 1), begins.get(p)) for p in range(len(levels) + 1)]


def lines(levels, cuts):
    told = [[]]
    for place in range(len(levels)):
        if place in cuts:
            told.append([])
        told[-1].append(place)
    return [[places[k] for k in order([levels[p] for p in places])] for places in told]

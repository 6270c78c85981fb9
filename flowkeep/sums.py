"""Sums of products of unknown words with factors, and spans of them.

A sum is a tuple of pairs of a place, which stands for an unknown word, and a factor other than 0, ascending.
The unknown word of place 0 is 1.
"""

from flowkeep.words import SIZE, inverse

ONE = ((0, 1),)


def summed(parts):
    """Return the sum of the products of sums and factors, told by a list of pairs."""
    found = {}
    for one, factor in parts:
        for place, number in one:
            found[place] = found.get(place, 0) + factor * number
    return tuple(sorted([(place, number % SIZE) for place, number in found.items() if number % SIZE != 0]))


def unknown_sum(place):
    """Return the sum that is the unknown word of the place."""
    return ((place, 1),)


def word_sum(word):
    """Return the sum that is the word."""
    return ((0, word),) if word != 0 else ()


def word_of(one):
    """Return the word that the sum is whatever the unknown words are, or None."""
    if not one:
        return 0
    return one[0][1] if len(one) == 1 and one[0][0] == 0 else None


def may_be_zero(one):
    """Return whether the sum is 0 for some unknown words."""
    others = SIZE
    for place, number in one:
        if place != 0:
            others = min(others, number & -number)
    return not one or one[0][0] != 0 or one[0][1] % others == 0


def transposed(columns):
    """Return the dict of sums over the places of the columns, by the places in the sums that the columns are."""
    found = {}
    for place in sorted(list(columns)):
        for other, number in columns[place]:
            found.setdefault(other, []).append((place, number))
    return {other: tuple(pairs) for other, pairs in found.items()}


def _lessen(left, one):
    """Take a sum away from the one that a dict tells, as often as makes its first factor 0."""
    place, power = one[0]
    factor = left[place] // power
    for at, number in one:
        rest = (left.get(at, 0) - factor * number) % SIZE
        if rest != 0:
            left[at] = rest
        else:
            left.pop(at, None)


def take_in(found, row):
    """Add a sum to the span that a dict tells by the first places of sums; return whether it was not in the span.

    The first factor of each one in the dict is a power of 2, and each sum of the span without places
    ahead of one is in the span of those of the dict for which this is so, too.
    """
    grown = False
    waiting = [row]
    while waiting:
        left = dict(waiting.pop())
        while left:
            place = min(left)
            if place not in found or left[place] % found[place][0][1] != 0:
                break
            _lessen(left, found[place])
        if left:
            grown = True
            power = left[place] & -left[place]
            if place in found:
                waiting.append(found[place])
            found[place] = summed([(tuple(left.items()), inverse(left[place] // power))])
            # What makes the first factor go round to 0 may leave something behind it.
            waiting.append(summed([(found[place], SIZE // power)]))
    return grown


def rest_of(found, row):
    """Return what is left of the sum if those of the span are taken away from the first place on, as far as they go."""
    left = dict(row)
    for place in sorted(list(found)):
        if place in left and left[place] % found[place][0][1] == 0:
            _lessen(left, found[place])
    return tuple(sorted(list(left.items())))

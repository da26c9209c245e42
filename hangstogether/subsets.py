"""Sets of places, told by the numbers whose binary digits tell which ones belong to them."""


def places_in(number):
    """Return the places that belong to a set, in order."""
    return [place for place in range(number.bit_length()) if (number >> place) & 1 == 1]


def without(number, place):
    """Return the set without a place that belongs to it."""
    return number - (1 << place)

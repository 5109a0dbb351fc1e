"""What all modules ask of a thing of any kind."""


def is_whole(thing):
    """Whether a thing is a whole number; True and False are none, though Python counts them as such."""
    return isinstance(thing, int) and not isinstance(thing, bool)


def is_whole_within(thing, low, high):
    """Whether a thing is a whole number from low to high."""
    return is_whole(thing) and low <= thing <= high


def is_tuple_of(thing, many):
    """Whether a thing is a tuple of so many things."""
    return isinstance(thing, tuple) and len(thing) == many

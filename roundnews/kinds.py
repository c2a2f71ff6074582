"""Kinds of things that may be anything."""


def is_number(thing):
    """Tell whether thing is a whole number; True and False are none, though Python counts with them."""
    return isinstance(thing, int) and not isinstance(thing, bool)

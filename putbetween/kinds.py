"""What kind of thing a caller has passed: each question may be asked of any object."""

MOST_LETTERS = 8


def is_integer(thing):
    """Whether a thing is an integer; True and False are none."""
    return isinstance(thing, int) and not isinstance(thing, bool)


def is_number(least, most, thing):
    """Whether a thing is an integer from the least to the most."""
    return is_integer(thing) and least <= thing <= most


def is_list_or_tuple(thing):
    """Whether a thing is a list or a tuple."""
    return isinstance(thing, (list, tuple))


def is_order(many, thing):
    """Whether a thing is a tuple of all integers from 0 on below so many, each once."""
    if not isinstance(thing, tuple) or len(thing) != many:
        return False
    if not all([is_number(0, many - 1, part) for part in thing]):
        return False
    return len(set(thing)) == many


def is_rising(many, thing):
    """Whether a thing is a tuple of integers from 0 on below so many, each greater than the one ahead."""
    if not isinstance(thing, tuple):
        return False
    least = 0
    for part in thing:
        if not is_number(least, many - 1, part):
            return False
        least = part + 1
    return True


def is_word(thing):
    """Whether a thing is a string of 1 to 8 letters from a to z."""
    if not isinstance(thing, str) or not 1 <= len(thing) <= MOST_LETTERS:
        return False
    return all(["a" <= sign <= "z" for sign in thing])


def is_name(thing):
    """Whether a thing can be a name: an integer or a string."""
    return is_integer(thing) or isinstance(thing, str)

"""What counts as a whole number and as a name, for any value."""


def is_whole(value):
    """Return whether a value is a whole number."""
    # Python counts Booleans among the integers; here they are no numbers.
    return isinstance(value, int) and not isinstance(value, bool)


def is_name(value):
    """Return whether a value is a string of 1 to 8 small letters from a to z."""
    if not isinstance(value, str) or not 1 <= len(value) <= 8:
        return False
    return all(["a" <= letter <= "z" for letter in value])

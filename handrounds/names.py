"""What counts as a name of a courier, a place or a letter."""

MOST_LETTERS = 12


def is_name(text):
    """Tell whether the string consists of 1 to 12 letters a to z."""
    return 1 <= len(text) <= MOST_LETTERS and all(["a" <= sign <= "z" for sign in text])

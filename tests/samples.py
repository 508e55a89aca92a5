"""Strings and stops that several tests use."""

NAMES = ("a", "z", "az", "mill", "abcdefghijkl", "zzzzzzzzzzzz", "mnopqrstuvwx")
# The signs just outside of a to z, capital letters, digits, spaces and newlines, in each position.
NO_NAMES = (
    "", "abcdefghijklm", "a" * 60, "`", "{", "A", "Z", "0", "9", " ", "\n", "~", "@", "@mill", "_", "-", ".",
    "Mill", "mIll", "milL", "mill ", " mill", "mi ll", "mill\n", "\nmill", "mi\nll", "mill2", "2mill", "mi-ll",
    "mi_ll", "abcdefghijk{", "`bcdefghijkl", "ABCDEFGHIJKL",
)
EIGHT = tuple((3 * number, "abcdefgh"[number]) for number in range(8))

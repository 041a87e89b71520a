"""Names, and the words that are none."""

LETTERS = "abcdefghijklmnopqrstuvwxyz"
DIGITS = "0123456789"
NAME_SIGNS = "abcdefghijklmnopqrstuvwxyz0123456789."

WORDS = ("text", "net", "delay", "source", "thin", "stretch", "hold", "deal", "weave")

LONGEST_NAME = 40


def is_name(value):
    if not isinstance(value, str) or not 1 <= len(value) <= LONGEST_NAME or value in WORDS:
        return False
    return value[0] in LETTERS and all([sign in NAME_SIGNS for sign in value])

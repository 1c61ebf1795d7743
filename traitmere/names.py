"""What a name is: of kinds, rooms, words and rules alike."""

LETTERS = "abcdefghijklmnopqrstuvwxyz"
LONGEST = 8


def is_name(text):
    """Whether the text is one to eight small letters."""
    return 1 <= len(text) <= LONGEST and all([sign in LETTERS for sign in text])

"""Names of walkers."""

MOST_SIGNS = 8
SMALL_LETTERS = "abcdefghijklmnopqrstuvwxyz"


def is_name(text):
    """Whether a text is such as a walker may be called."""
    return 1 <= len(text) <= MOST_SIGNS and all([sign in SMALL_LETTERS for sign in text])

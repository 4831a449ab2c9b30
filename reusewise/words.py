"""The words that a program's text is made of."""

OPS = ("plus", "minus", "times", "over", "rest", "less", "same")
NAMING_DEEDS = ("make", "call", "func", "ask")
KEPT_WORDS = (
    "def", "kind", "give", "let", "if", "else", "case", "end", "num",
    "plus", "minus", "times", "over", "rest", "less", "same",
    "make", "call", "func", "ask",
)
# Written out, for Python's own tests of letters and figures let by signs of other scripts.
LETTERS = "abcdefghijklmnopqrstuvwxyz"
FIGURES = "0123456789"
MOST_LETTERS = 12
MOST_FIGURES = 30


def made_of(word, signs):
    return all([sign in signs for sign in word])


def is_name(word):
    return 1 <= len(word) <= MOST_LETTERS and made_of(word, LETTERS) and word not in KEPT_WORDS


def is_number(word):
    figures = word[1:] if word.startswith("-") else word
    if not 1 <= len(figures) <= MOST_FIGURES or not made_of(figures, FIGURES):
        return False
    return word == "0" or not figures.startswith("0")

"""Numbers in texts: figures without a nought ahead of others."""

FIGURES = "0123456789"


def are_figures(text):
    """Whether this text is a number's figures."""
    # isdigit would let by signs that are no figures from 0 to 9.
    if len(text) == 0 or any(sign not in FIGURES for sign in text):
        return False
    return len(text) == 1 or text[0] != "0"


def read_number(text, most_figures):
    """The number of at most so many figures, or None."""
    # Python reads no text of more than some thousand figures: how many there are is looked at first.
    if len(text) > most_figures or not are_figures(text):
        return None
    return int(text)

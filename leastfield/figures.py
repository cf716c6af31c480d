"""Numbers written in figures, without anything needless."""


def is_number_text(text):
    """Whether a text is a number in figures (isdigit alone takes those of other scripts, too)."""
    return text.isascii() and text.isdigit() and (text == "0" or not text.startswith("0"))


def is_whole_text(text):
    """Whether a text is an integer in figures, with a minus ahead if it is below 0."""
    return text != "-0" and is_number_text(text.removeprefix("-"))

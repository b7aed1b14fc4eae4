"""Numbers as texts of any length. Python's own int and str refuse more than 4300 digits."""

DIGITS = "0123456789"
CHUNK = 60


def digits_of(number):
    """The decimal digits of an integer from 0 on."""
    chunks = []
    rest = number
    while rest >= 10 ** 60:
        chunks.append(str(rest % 10 ** 60).zfill(CHUNK))
        rest = rest // 10 ** 60
    chunks.append(str(rest))
    return "".join(chunks[::-1])


def number_text(number):
    """The text of any integer."""
    if number < 0:
        return f"-{digits_of(-number)}"
    return digits_of(number)


def is_digits(text):
    """Whether a string consists of one or more decimal digits."""
    return len(text) > 0 and all([sign in DIGITS for sign in text])


def is_number_word(word, most):
    """Whether a word is a number from 0 on, as str writes it, of at most so many digits."""
    if not is_digits(word) or len(word) > most:
        return False
    return word == "0" or not word.startswith("0")


def read_digits(text):
    """The integer that a string of decimal digits tells."""
    first = len(text) % CHUNK
    number = int(text[:first]) if first > 0 else 0
    for at in range(first, len(text), CHUNK):
        number = number * 10 ** 60 + int(text[at:at + CHUNK])
    return number

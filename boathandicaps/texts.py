"""Texts as lists of bytes: their lines, words, numbers and names."""

LINE_END = 10
BLANK = 32
LAST_SIGN = 126
DASH = 45
ZERO = 48
NINE = 57
MOST_DIGITS = 7
MOST_NAME_SIGNS = 12


def codes(text):
    return [ord(sign) for sign in text]


def counted(text):
    return [len(text)] + text


def text_lines(text):
    lines = []
    line = []
    for code in text:
        if code == LINE_END:
            lines.append(line)
            line = []
        else:
            line.append(code)
    # Behind the last line end an empty piece is no line.
    if len(line) > 0:
        lines.append(line)
    return lines


def has_only_signs(line):
    return all([BLANK <= code <= LAST_SIGN for code in line])


def line_words(line):
    words = []
    word = []
    for code in line:
        if code != BLANK:
            word.append(code)
        elif len(word) > 0:
            words.append(word)
            word = []
    if len(word) > 0:
        words.append(word)
    return words


def joined(words):
    """The words as a line: one blank between them, a line end behind."""
    line = []
    for word in words:
        if len(line) > 0:
            line.append(BLANK)
        line.extend(word)
    line.append(LINE_END)
    return line


def is_digit(code):
    return ZERO <= code <= NINE


def digits_value(digits):
    value = 0
    for code in digits:
        value = 10 * value + code - ZERO
    return value


def read_number(word, least, most):
    """The number that the word is, or None if it's no number from least to most."""
    if len(word) == 0 or len(word) > MOST_DIGITS:
        return None
    if not all([is_digit(code) for code in word]):
        return None
    if word[0] == ZERO and len(word) > 1:
        return None
    value = digits_value(word)
    if value < least or value > most:
        return None
    return value


def is_name_sign(code):
    is_upper = ord("A") <= code <= ord("Z")
    is_lower = ord("a") <= code <= ord("z")
    return is_upper or is_lower or is_digit(code) or code == DASH


def is_name(word):
    if len(word) == 0 or len(word) > MOST_NAME_SIGNS:
        return False
    return all([is_name_sign(code) for code in word])

"""Which things are numbers and names, and numbers plainly written."""

LAST = 1000000000
WIDEST_READING = 10000000000
WIDEST_SHIFT = 2880
MOST_MINUTES = 2000000001
LONGEST_NAME = 8
FIGURES = "0123456789"


def is_number(thing):
    # Python counts True and False among the ints; here they are no numbers.
    return isinstance(thing, int) and not isinstance(thing, bool)


def is_whole(thing, low, high):
    return is_number(thing) and low <= thing <= high


def is_moment(thing):
    return is_whole(thing, 0, LAST)


def is_reading(thing):
    return is_whole(thing, -WIDEST_READING, WIDEST_READING)


def is_shift(thing):
    return is_whole(thing, -WIDEST_SHIFT, WIDEST_SHIFT)


def is_minutes(thing):
    # 1 less the minutes of a bond must be minutes, too.
    return is_whole(thing, 1 - MOST_MINUTES, MOST_MINUTES)


def is_name(thing):
    if not isinstance(thing, str) or not 1 <= len(thing) <= LONGEST_NAME:
        return False
    return all(["a" <= sign <= "z" for sign in thing])


def all_figures(text):
    # Not isdigit: that one knows figures beyond 0 to 9.
    return all([sign in FIGURES for sign in text])


def plainly_writes(text):
    if text == "0":
        return True
    figures = text[1:] if text.startswith("-") else text
    return figures != "" and not figures.startswith("0") and all_figures(figures)


def whole_in(thing, low, high):
    if not isinstance(thing, str):
        return None
    # No number between the two is longer than both, and Python refuses to
    # read texts of some thousand figures.
    if len(thing) > max(len(str(low)), len(str(high))) or not plainly_writes(thing):
        return None
    number = int(thing)
    return number if low <= number <= high else None

"""Clock texts of numbers, and texts of shifts."""

from foldlog.words import WIDEST_SHIFT, all_figures, whole_in

HOUR = 60
DAY = 1440


def two_figures(number):
    return str(number).zfill(2)


def clock_text(number):
    day = number // DAY
    hours = two_figures(number % DAY // HOUR)
    minutes = two_figures(number % HOUR)
    return f"{day}.{hours}.{minutes}"


def two_in(text, high):
    if len(text) != 2 or not all_figures(text):
        return None
    return int(text) if int(text) <= high else None


def clock_in(text, low, high):
    if not isinstance(text, str):
        return None
    parts = text.split(".")
    if len(parts) != 3:
        return None
    day = whole_in(parts[0], low // DAY, high // DAY)
    hours = two_in(parts[1], 23)
    minutes = two_in(parts[2], 59)
    if day is None or hours is None or minutes is None:
        return None
    number = day * DAY + hours * HOUR + minutes
    return number if low <= number <= high else None


def shift_text(shift):
    sign = "-" if shift < 0 else "+"
    hours = abs(shift) // HOUR
    minutes = two_figures(abs(shift) % HOUR)
    return f"{sign}{hours}.{minutes}"


def size_in(text):
    # The minutes of a shift's text without its sign.
    parts = text.partition(".")
    hours = whole_in(parts[0], 0, WIDEST_SHIFT // HOUR)
    minutes = two_in(parts[2], 59)
    if hours is None or minutes is None:
        return None
    size = hours * HOUR + minutes
    return size if size <= WIDEST_SHIFT else None


def shift_in(text):
    if not isinstance(text, str):
        return None
    size = size_in(text[1:])
    if size is None:
        return None
    if text.startswith("+"):
        return size
    # Nought has a text with + alone.
    return -size if text.startswith("-") and size > 0 else None

"""Spans: sets of whole numbers as lists of tuples (low, high)."""

from foldlog.errors import NoSpans, NoText
from foldlog.words import is_number, whole_in

THIRTY_NINES = 999999999999999999999999999999


def is_stretch(thing):
    return isinstance(thing, tuple) and len(thing) == 2 and is_number(thing[0]) and is_number(thing[1])


def are_spans(thing):
    if not isinstance(thing, list):
        return False
    for place, span in enumerate(thing):
        if not is_stretch(span) or span[0] > span[1]:
            return False
        if place > 0 and span[0] < thing[place - 1][1] + 2:
            return False
    return True


def check_stretches(stretches):
    if not isinstance(stretches, list):
        raise NoSpans(0)
    for place, stretch in enumerate(stretches):
        if not is_stretch(stretch):
            raise NoSpans(place)


def spans_of(stretches):
    check_stretches(stretches)
    told = []
    for low, high in sorted([stretch for stretch in stretches if stretch[0] <= stretch[1]]):
        if told and low <= told[-1][1] + 1:
            told[-1] = (told[-1][0], max(told[-1][1], high))
        else:
            told.append((low, high))
    return told


def either(one, other):
    return spans_of(one + other)


def both(one, other):
    told = []
    at_one = 0
    at_other = 0
    while at_one < len(one) and at_other < len(other):
        low = max(one[at_one][0], other[at_other][0])
        high = min(one[at_one][1], other[at_other][1])
        if low <= high:
            told.append((low, high))
        # The span that ends first can meet nothing more.
        if one[at_one][1] < other[at_other][1]:
            at_one += 1
        else:
            at_other += 1
    return told


def less(one, other):
    if not one:
        return []
    # What lies outside the other, as far as the first one reaches.
    starts = [one[0][0]] + [high + 1 for low, high in other]
    ends = [low - 1 for low, high in other] + [one[-1][1]]
    return both(one, spans_of(list(zip(starts, ends))))


def place_from(spans, number):
    # The place of the first span that does not end below the number; halving,
    # as raising a log asks this again and again.
    low = 0
    high = len(spans)
    while low < high:
        middle = (low + high) // 2
        if spans[middle][1] < number:
            low = middle + 1
        else:
            high = middle
    return low


def has(spans, thing):
    return is_number(thing) and first_from(spans, thing) == thing


def how_many(spans):
    return sum([high - low + 1 for low, high in spans])


def first_from(spans, number):
    place = place_from(spans, number)
    return max(spans[place][0], number) if place < len(spans) else None


def last_to(spans, number):
    place = place_from(spans, number)
    if place < len(spans) and spans[place][0] <= number:
        return number
    return spans[place - 1][1] if place > 0 else None


def moved(spans, by):
    return [(low + by, high + by) for low, high in spans]


def turned(spans):
    return [(-high, -low) for low, high in reversed(spans)]


def span_text(low, high):
    return f"{low}" if low == high else f"{low}..{high}"


def spans_text(spans):
    return " ".join([span_text(low, high) for low, high in spans])


def span_in(word):
    # A word without the two points stands for one number, so for low and high.
    if ".." not in word:
        number = whole_in(word, -THIRTY_NINES, THIRTY_NINES)
        return None if number is None else (number, number)
    parts = word.partition("..")
    low = whole_in(parts[0], -THIRTY_NINES, THIRTY_NINES)
    high = whole_in(parts[2], -THIRTY_NINES, THIRTY_NINES)
    if low is None or high is None or low >= high:
        return None
    return (low, high)


def spans_in(text):
    if not isinstance(text, str):
        raise NoText(0)
    told = []
    if text == "":
        return told
    for place, word in enumerate(text.split(" ")):
        span = span_in(word)
        if span is None or (told and span[0] < told[-1][1] + 2):
            raise NoText(place)
        told.append(span)
    return told

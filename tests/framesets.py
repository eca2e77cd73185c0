"""Frames that several tests try; steps, rings and papers gone through by hand."""

import itertools
import random

from foldlog.frames import Frame
from logsets import spans_by_hand


def first_of(spans):
    return spans[0][0] if spans else None


def not_before(spans, number):
    # The first moment that is not before the number, span by span.
    for low, high in spans:
        if high >= number:
            return max(low, number)
    return None


def step(spans, lows, bond):
    # The lows behind a step upwards; a new list.
    later, earlier, minutes = bond
    told = list(lows)
    if lows[later] is None or lows[earlier] is None:
        return told
    found = not_before(spans[later], lows[earlier] + minutes)
    if found is None or found > lows[later]:
        told[later] = found
    return told


def walk(spans, bonds, steps, lows=None):
    told = [first_of(one) for one in spans] if lows is None else list(lows)
    for number in steps:
        told = step(spans, told, bonds[number])
    return told


def goes_round(bonds, numbers):
    # Whether the bonds of these numbers are a ring, as a paper has one.
    if type(numbers) is not list or not numbers:
        return False
    if any(type(number) is not int or not 0 <= number < len(bonds) for number in numbers):
        return False
    for place, number in enumerate(numbers):
        if bonds[number][0] != bonds[numbers[(place + 1) % len(numbers)]][1]:
            return False
    return sum(bonds[number][2] for number in numbers) > 0


def goes_past(spans, bonds, numbers):
    if type(numbers) is not list or not numbers or [] in spans:
        return False
    if any(type(number) is not int or not 0 <= number < len(bonds) for number in numbers):
        return False
    lows = walk(spans, bonds, [])
    for place, number in enumerate(numbers):
        lows = step(spans, lows, bonds[number])
        if None in lows:
            return place == len(numbers) - 1
    return False


def has_ring(many, bonds):
    # Longest ways between any two entries, through one entry more at a time.
    longest = [[None] * many for entry in range(many)]
    for later, earlier, minutes in bonds:
        if longest[earlier][later] is None or longest[earlier][later] < minutes:
            longest[earlier][later] = minutes
    for over, one, other in itertools.product(range(many), repeat=3):
        ways = (longest[one][over], longest[over][other])
        if None not in ways and (longest[one][other] is None or longest[one][other] < sum(ways)):
            longest[one][other] = sum(ways)
    return any(longest[entry][entry] is not None and longest[entry][entry] > 0 for entry in range(many))


def all_ways(moments, bonds):
    # Found by trying all.
    return [values for values in itertools.product(*moments)
            if all(values[later] >= values[earlier] + minutes for later, earlier, minutes in bonds)]


def least_way(moments, bonds):
    # The least of all lows that keep all bonds, entry by entry.
    ways = all_ways(moments, bonds)
    if not ways:
        return None
    return [min(values[entry] for values in ways) for entry in range(len(moments))]


def longest_chain(bonds, steps):
    # How many steps build on each other at most: each on what the one ahead raised.
    depths = {}
    most = 0
    for number in steps:
        later, earlier, minutes = bonds[number]
        depths[later] = depths.get(earlier, 0) + 1
        most = max(most, depths[later])
    return most


def some_bonds(chance, entries, most, widest):
    return [(chance.randrange(entries), chance.randrange(entries), chance.randint(-widest, widest))
            for turn in range(chance.randint(0, most))]


def small_cases(seed, turns, low=0, high=7):
    # Moments of up to four entries, and bonds; some without moments, many with rings.
    chance = random.Random(seed)
    told = []
    for turn in range(turns):
        many = chance.randint(1, 4)
        fewest = chance.choice([0, 1, 1, 1, 2])
        moments = [sorted(chance.sample(range(low, high), chance.randint(fewest, 5))) for entry in range(many)]
        told.append((moments, some_bonds(chance, many, 6, chance.choice([1, 3, 5]))))
    return told


def frame_by(moments, bonds):
    return Frame([spans_by_hand(numbers) for numbers in moments], bonds)


def trap(layers):
    # Two ways round each layer, the longer one last: without rings, but a bad
    # order of steps would take twice as many for each layer more.
    bonds = []
    for layer in range(layers):
        start, side, end = 2 * layer, 2 * layer + 1, 2 * layer + 2
        bonds += [(end, start, 1), (side, start, 1), (end, side, 2 ** (layers - layer))]
    return bonds


def zigzag(many, tuples):
    # A ring whose minutes together are 0, each entry with moments so far apart
    # that every step of the ring leaps to the next of them.
    spans = [[(turn * many + entry, turn * many + entry) for turn in range(tuples)] for entry in range(many)]
    bonds = [(entry, (entry - 1) % many, 0) for entry in range(many)]
    return spans, bonds


def is_built_on(bonds, steps):
    # Whether on each step but the last another one builds, behind it, with no step
    # of the same later entry between the two.
    for place, number in enumerate(steps[:-1]):
        for behind in steps[place + 1:]:
            if bonds[behind][1] == bonds[number][0]:
                break
            if bonds[behind][0] == bonds[number][0]:
                return False
        else:
            return False
    return True


def each_raises(spans, bonds, steps):
    lows = walk(spans, bonds, [])
    for number in steps:
        ahead, lows = lows, step(spans, lows, bonds[number])
        if ahead == lows:
            return False
    return True


def is_told_paper(names, spans, bonds, paper):
    # Whether a paper is of the kind that is to be told, all of it gone through by hand.
    if type(paper) is not tuple or len(paper) != 2:
        return False
    if [] in spans:
        return paper == ("empty", names[spans.index([])])
    if has_ring(len(spans), bonds):
        numbers = paper[1]
        laters = {bonds[number][0] for number in numbers}
        return paper[0] == "ring" and goes_round(bonds, numbers) and len(laters) == len(numbers)
    if paper[0] != "past" or not goes_past(spans, bonds, paper[1]):
        return False
    return each_raises(spans, bonds, paper[1]) and is_built_on(bonds, paper[1])


def is_paper_told_of(log, paper):
    names = log.names()
    bonds = [(names.index(later), names.index(earlier), minutes) for later, earlier, minutes in log.bonds()]
    return is_told_paper(names, [log.spans(name) for name in names], bonds, paper)

"""Functions that keep moments of a sifted entry."""

from foldlog.clocks import DAY


def on_days(low, high):
    return lambda moment: low <= moment // DAY <= high


def daily(low, high):
    if low <= high:
        return lambda moment: low <= moment % DAY <= high
    # Over midnight, from one day into the next.
    return lambda moment: moment % DAY >= low or moment % DAY <= high


def opposite(keeps):
    return lambda moment: not keeps(moment)

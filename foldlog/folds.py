"""Which readings of a table are shown how often."""

from foldlog.spans import spans_of


def stretches_shown(table):
    # Each piece shows every reading of its stretch just once.
    return [(low + shift, high + shift) for low, high, shift in table.pieces()]


def how_often(stretches, reading):
    return len([low for low, high in stretches if low <= reading <= high])


def counted(table):
    shown = stretches_shown(table)
    starts = sorted(set([low for low, high in shown] + [high + 1 for low, high in shown]))
    told = []
    for low, end in zip(starts, starts[1:]):
        many = how_often(shown, low)
        if told and told[-1][2] == many:
            told[-1] = (told[-1][0], end - 1, many)
        else:
            told.append((low, end - 1, many))
    return told


def skipped(table):
    return spans_of([(low, high) for low, high, many in counted(table) if many == 0])


def repeated(table):
    return spans_of([(low, high) for low, high, many in counted(table) if many > 1])

"""Frames: a log's numbers alone, without names."""


def copies(spans):
    return [list(one) for one in spans]


class Frame:
    def __init__(self, spans, bonds):
        self.kept_spans = copies(spans)
        self.kept_bonds = list(bonds)

    def spans(self):
        return copies(self.kept_spans)

    def bonds(self):
        return list(self.kept_bonds)


def frame_of(log):
    names = log.names()
    bonds = [(names.index(later), names.index(earlier), minutes) for later, earlier, minutes in log.bonds()]
    return Frame([log.spans(name) for name in names], bonds)

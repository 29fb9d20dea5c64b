"""The one error by which a wrong text is told."""


# A text is wrong: the kind of its fault and the place, as they are answered.
class Fault(Exception):
    def __init__(self, kind, place):
        self.kind = kind
        self.place = place

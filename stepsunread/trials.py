"""Trials of houses."""


class Trial:
    """A trial of a house: behind it all is as ahead, unless it was kept and no error left it."""

    def __init__(self, house):
        self.house = house
        # The house, as soon as it keeps the trial; None until then: __exit__ may only ask what is None.
        self.keeper = None

    def __enter__(self):
        house = self.house
        self.keeper = None
        self.outer = house.innermost
        self.record = house.record
        self.past = house.past
        self.mill = house.mill
        self.stand = house.stand
        self.book = house.book
        self.made = house.made
        house.innermost = self
        return house

    def __exit__(self, kind, value, trace):
        self.house.innermost = self.outer
        if kind is not None or self.keeper is None:
            self.house.record = self.record
            self.house.past = self.past
            self.house.mill = self.mill
            self.house.stand = self.stand
            self.house.book = self.book
            self.house.made = self.made

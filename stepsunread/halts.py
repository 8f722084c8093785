"""What working out raises where it needs what is not chosen."""


class Halt(ValueError):
    """Worked out as far as the choices lead: point is what has to be chosen to go on."""

    def __init__(self, point):
        self.point = point

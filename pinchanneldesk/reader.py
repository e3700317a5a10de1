"""How the numbers of a line of calls are read, one behind another."""


class Reader:
    """A walk through the calls, number by number; it changes its own place alone."""

    def __init__(self, calls):
        self.calls = calls
        self.place = 0

    def has_more(self):
        return self.place < len(self.calls)

    def read_number(self):
        number = self.calls[self.place]
        self.place += 1
        return number

    def read_row(self):
        size = self.read_number()
        # A slice is a copy, so a row may be kept and changed later on.
        row = self.calls[self.place:self.place + size]
        self.place += size
        return row

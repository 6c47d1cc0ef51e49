"""Tables that need not be judged: what they are made of tells that they are right."""


class Known:
    """A table, as tuples modulo the prime, given in the place of one that is handed in and may be wrong.

    It is right together with whatever else is known that it is given with, by what the document promises.
    """

    def __init__(self, table):
        self.table = table

"""What a wish of any sort can be asked; each sort answers in a class of its own."""


class Wish:
    def __init__(self, wish):
        self.wish = wish

    def kept(self, filling):
        raise NotImplementedError("told by each sort")

    def may_keep(self, rooms):
        raise NotImplementedError("told by each sort")

    def may_break(self, rooms):
        raise NotImplementedError("told by each sort")

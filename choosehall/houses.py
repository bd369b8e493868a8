"""A house: its seats, and which comers it takes rather than others."""


class House:
    def __init__(self, seats, kept, kind, opened, points, kinds, row):
        self.seats = seats
        # No more can be kept than there are; else seats that come later would count as kept.
        self.kept = min(kept, seats)
        self.kind = kind
        self.opened = opened
        self.points = list(points)
        self.kinds = list(kinds)
        self.row = list(row)

    def ranked(self, comers):
        taken = [comer for comer in comers if self.points[comer] is not None]
        return sorted(taken, key=self.rank_key)

    def rank_key(self, comer):
        return (-self.points[comer], self.row.index(comer))

    def chosen(self, comers):
        ranking = self.ranked(comers)
        keepers = [comer for comer in ranking if self.kinds[comer] == self.kind][:self.kept]
        left = [comer for comer in ranking if comer not in keepers]
        return sorted(keepers + left[:self.seats_left(len(keepers))])

    def seats_left(self, keepers):
        if self.opened:
            return self.seats - keepers
        return self.seats - self.kept

    def with_more(self, many):
        return House(self.seats + many, self.kept, self.kind, self.opened, self.points, self.kinds, self.row)

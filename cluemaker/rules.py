"""Rules: which fillings meet them. They are made by read_rule of cluemaker.rows alone."""

from cluemaker.floors import beside, reached, squares


def is_within(some, cells):
    return all([cell in cells for cell in some])


class Rule:
    def __init__(self, floor, words, cells, amount, mark):
        self.floor = floor
        # tuples, so that nothing that is told can be changed through the rule
        self.words = tuple(words)
        self.cells = tuple(cells)
        self.amount = amount
        self.mark = mark

    def name(self):
        return self.words[0]

    def spots(self):
        return list(self.cells)

    def number(self):
        return self.amount

    def sign(self):
        return self.mark

    def line(self):
        return " ".join(self.words)

    def reckons(self):
        return False

    def holds(self, filling):
        # a rule that is none of those below asks nothing
        return True

    def signs_at(self, filling):
        return [filling[cell] for cell in self.cells]

    def marked(self, filling):
        return [cell for cell in self.cells if filling[cell] == self.mark]


class Unlike(Rule):
    def holds(self, filling):
        signs = self.signs_at(filling)
        return len(set(signs)) == len(signs)


class Sum(Rule):
    def reckons(self):
        return True

    def holds(self, filling):
        return sum(self.signs_at(filling)) == self.amount


class Rising(Rule):
    def reckons(self):
        return True

    def holds(self, filling):
        signs = self.signs_at(filling)
        return all([signs[place] < signs[place + 1] for place in range(len(signs) - 1)])


class Seen(Rule):
    def reckons(self):
        return True

    def holds(self, filling):
        greatest = 0
        seen = 0
        for sign in self.signs_at(filling):
            if sign > greatest:
                greatest = sign
                seen = seen + 1
        return seen == self.amount


class Count(Rule):
    def holds(self, filling):
        return len(self.marked(filling)) == self.amount


class Joined(Rule):
    def holds(self, filling):
        return self.is_joined(self.marked(filling))

    def is_joined(self, cells):
        return cells == [] or reached(self.floor, cells, cells[0]) == cells


class NoSquare(Rule):
    def holds(self, filling):
        cells = self.marked(filling)
        return not any([is_within(square, cells) for square in squares(self.floor)])


class Ring(Joined):
    def holds(self, filling):
        cells = self.marked(filling)
        return self.is_joined(cells) and all([self.has_two_beside(cells, cell) for cell in cells])

    def has_two_beside(self, cells, cell):
        return len([other for other in beside(self.floor, cell) if other in cells]) == 2

"""Points 7.5 to 7.8 told a second time: strides are found by looking where single steps of coordinates lead."""

import functools

from model import model_told, product, used_by


def dot(numbers, others):
    return sum([a * b for a, b in zip(numbers, others, strict=True)])


def remapped(tree, back, old, new):
    """A tree whose first coordinates, so many old ones, are made of so many new ones by the function back."""
    form = tree[0]
    if form == "num":
        return tree

    def changed(start, strides):
        inner = len(strides) - old

        def spot(at):
            return start + dot(back(at[:new]) + at[new:], strides)
        nought = (0,) * (new + inner)
        ones = [nought[:k] + (1,) + nought[k + 1:] for k in range(len(nought))]
        return spot(nought), tuple([spot(one) - spot(nought) for one in ones])

    if form == "index":
        return ("index",) + changed(tree[1], tree[2])
    if form == "read":
        return ("read", tree[1]) + changed(tree[2], tree[3])
    if form == "fold":
        return tree[:3] + (remapped(tree[3], back, old, new),)
    if form == "fetch":
        start, strides = changed(tree[2], tree[5])
        return ("fetch", tree[1], start, tree[3], tree[4], strides, remapped(tree[6], back, old, new))
    first = 1 if form == "pick" else 2
    return tree[:first] + tuple([remapped(part, back, old, new) for part in tree[first:]])


def strides_told(sides):
    return tuple([product(sides[k + 1:]) for k in range(len(sides))])


class Weaving:
    def __init__(self, program):
        self.steps, self.outs = program
        self.sides = model_told(program)[0]
        self.live = set()
        for out in self.outs:
            self.find_live(out)
        self.uses = [(user, place, number) for user in sorted(self.live)
                     for place, number in enumerate(used_by(self.steps[user]))]

    def find_live(self, k):
        if k not in self.live:
            self.live.add(k)
            for number in used_by(self.steps[k]):
                self.find_live(number)

    @functools.cache
    def kept(self, k):
        form = self.steps[k][0]
        users = [(self.steps[user], user, place) for user, place, number in self.uses if number == k]
        if form in ("in", "lay") or k not in self.live:
            return False
        if form in ("run", "join") or k in self.outs:
            return True
        tree = self.bare(k)
        for step, user, place in users:
            if step[0] == "lay" or step[0] == "fetch" and place == 0 and tree[0] != "read":
                return True
        if tree[0] in ("num", "index", "read"):
            return False
        for step, user, place in users:
            leads = step[0] in ("pair", "pick") or step[0] == "fetch" and place == 1
            if step[0] == "spread" or leads and len(self.sides[user]) > len(self.sides[k]):
                return True
        return len(users) >= 2

    def stored(self):
        return [k for k in range(len(self.steps)) if self.steps[k][0] == "in" or self.kept(k)]

    def store(self, k):
        if self.steps[k][0] == "lay":
            return self.store(self.steps[k][1])
        return len([j for j in range(k) if self.steps[j][0] == "in" or self.kept(j)])

    @functools.cache
    def tree(self, k):
        if self.steps[k][0] == "in" or self.kept(k):
            return ("read", self.store(k), 0, strides_told(self.sides[k]))
        return self.bare(k)

    def led(self, number, own):
        many = len(self.sides[number])
        return remapped(self.tree(number), lambda at: at[:many], many, len(own))

    def bare(self, k):
        step = self.steps[k]
        form = step[0]
        own = self.sides[k]
        if form == "num":
            return ("num", step[1])
        if form == "count":
            return ("index", 0, tuple([int(side == step[2]) for side in range(len(own))]))
        if form in ("each", "pair"):
            return (form, step[1]) + tuple([self.led(number, own) for number in step[2:]])
        if form == "pick":
            return ("pick",) + tuple([self.led(number, own) for number in step[1:]])
        if form == "lay":
            return ("read", self.store(k), 0, strides_told(own))
        if form == "fetch":
            source = self.tree(step[1])
            asked = self.sides[step[2]]
            strides = tuple([0 for side in asked]) + source[3][1:]
            many = self.sides[step[1]][0]
            return ("fetch", source[1], source[2], source[3][0], many, strides, self.led(step[2], own))
        if form == "fold":
            return ("fold", step[1], self.sides[step[2]][step[3]], self.inner(step[2], step[3]))
        many = len(self.sides[step[1]])
        return remapped(self.tree(step[1]), lambda at: self.moved(step, at), many, len(own))

    def inner(self, number, side):
        many = len(self.sides[number])

        def back(at):
            return at[:side] + at[-1:] + at[side:-1]
        return remapped(self.tree(number), back, many, many)

    def moved(self, step, at):
        """The coordinates in what a turn, flip, cut or spread uses."""
        at = list(at)
        if step[0] == "turn":
            return tuple([at[step[2].index(side)] for side in range(len(at))])
        if step[0] == "flip":
            at[step[2]] = self.sides[step[1]][step[2]] - 1 - at[step[2]]
        elif step[0] == "cut":
            at[step[2]] = step[3] + at[step[2]] * step[5]
        else:
            at.pop(step[2])
        return tuple(at)

    def loops(self, k):
        step = self.steps[k]
        own = self.sides[k]
        strides = strides_told(own)
        store = self.store(k)
        if step[0] == "join":
            return [("fill", store, self.sides[step[1]], 0, strides, self.tree(step[1])),
                    ("fill", store, self.sides[step[2]], strides[step[3]] * self.sides[step[1]][step[3]], strides,
                     self.tree(step[2]))]
        if step[0] == "run":
            side = step[3]
            return [("run", step[1], store, own[:side] + own[side + 1:], own[side], 0,
                     strides[:side] + strides[side + 1:] + (strides[side],), self.inner(step[2], side))]
        return [("fill", store, own, 0, strides, self.bare(k))]

    def weft(self):
        stores = [(k, product(self.sides[k])) for k in self.stored()]
        loops = [loop for k in self.stored() if self.steps[k][0] != "in" for loop in self.loops(k)]
        return tuple(stores), tuple(loops), tuple([(self.store(out), self.sides[out]) for out in self.outs])

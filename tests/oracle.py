"""The document written down a second time, as plainly as possible, and random books and histories."""

ACTIONS = ("take", "least", "last", "show", "ask")
DOORS = ("put", "look", "alter", "back", "pay", "again")


class Told:
    """What play, faults and mixtures shall return for a history that can be played."""

    def __init__(self, book, prices, deeds):
        self.rules = dict(zip(DOORS, book.rules()))
        self.prices = dict(prices)
        self.moments = [dict(prices)]
        self.lines = []
        self.last = None
        self.reports = []
        self.faults = []
        self.mixtures = []
        for index, deed in enumerate(deeds):
            self.play(index, deed)

    def play(self, index, deed):
        if deed[0] == "price":
            self.prices[deed[1]] = deed[2]
            self.moments.append(dict(self.prices))
            self.reports.append(None)
            return
        asked = self.carry_out(deed)
        self.last = deed
        paid = None
        lines = [(one["item"], one["number"], one["shown"][-1] if one["shown"] else None) for one in self.lines]
        self.look_for_mixture(index)
        if deed == ("pay", True):
            paid = [(one["item"], one["number"], one["kept"]) for one in self.lines]
            self.look_for_faults(index)
            self.lines = []
        self.reports.append((lines, asked, paid))

    def carry_out(self, deed):
        door = deed[0]
        touched = self.lines
        if door == "put":
            touched = [one for one in self.lines if one["item"] == deed[1]]
            if not touched:
                touched = [{"item": deed[1], "number": 0, "kept": self.prices[deed[1]], "shown": []}]
                self.lines.append(touched[0])
            touched[0]["number"] += deed[2]
        if door == "alter":
            touched = [one for one in self.lines if one["item"] == deed[1]]
            touched[0]["number"] = deed[2]
            if deed[2] == 0:
                self.lines.remove(touched[0])
                touched = []
        if door == "pay" and self.last == ("pay", False):
            door = "again"
        asked = []
        for one in touched:
            for action in self.rules[door]:
                self.act(action, one, asked)
        return asked

    def act(self, action, one, asked):
        price = self.prices[one["item"]]
        if action == "take":
            one["kept"] = price
        if action == "least" and price < one["kept"]:
            one["kept"] = price
        if action == "last" and one["shown"]:
            one["kept"] = one["shown"][-1]
        if action == "show":
            one["shown"].append(one["kept"])
        if action == "ask" and (not one["shown"] or one["shown"][-1] != one["kept"]):
            asked.append(one["item"])
            one["shown"].append(one["kept"])

    def look_for_mixture(self, index):
        wanted = {one["item"]: one["shown"][-1] for one in self.lines if one["shown"]}
        for moment in self.moments:
            if {item: moment[item] for item in wanted} == wanted:
                return
        self.mixtures.append(index)

    def look_for_faults(self, index):
        for one in self.lines:
            if not one["shown"]:
                self.faults.append(("unshown", index, one["item"]))
            elif one["shown"][-1] != one["kept"]:
                self.faults.append(("other", index, one["item"]))
                if one["kept"] > max(one["shown"]):
                    self.faults.append(("dearer", index, one["item"]))


def random_book(random, make, most=3):
    """A book of random rules of at most so many actions."""
    rules = [tuple(random.choice(ACTIONS) for _ in range(random.randint(0, most))) for _ in DOORS]
    return make(*rules)


def random_history(random, items, amounts, many):
    """Random prices of these items, and so many random deeds that can be played."""
    prices = tuple((item, random.choice(amounts)) for item in items)
    deeds = []
    held = []
    while len(deeds) < many:
        kind = random.choice(("price", "price", "put", "put", "look", "alter", "back", "pay", "pay"))
        item = random.choice(items)
        if kind == "price":
            deeds.append((kind, item, random.choice(amounts)))
        elif kind == "put":
            deeds.append((kind, item, random.randint(1, 1000)))
            held.append(item)
        elif kind == "alter" and item in held:
            number = random.choice((0, 1, 1000))
            deeds.append((kind, item, number))
            held = [one for one in held if one != item or number]
        elif kind == "pay":
            done = random.random() < 0.4
            deeds.append((kind, done))
            held = [] if done else held
        elif kind != "alter":
            deeds.append((kind,))
    return prices, deeds

"""Rules: a press of names, each for a letter, for two names or for a repeated name."""

from pressroots.copies import Copies
from pressroots.errors import BadCount, BadPress, NoText, TooLong
from pressroots.press import Press
from pressroots.texts import MOST, check_position, is_letter, letter_at

MOST_RULES = 256


class Rules(Press):
    """A press of rules ("letter", letter), ("pair", left, right) and ("power", part, times)."""

    def __init__(self, rules):
        _check_form(rules)
        self.rules = tuple(rules)

    def verdict(self):
        """Return ("text", text), ("ring", names) or ("long", length)."""
        lengths = self.lengths()
        if lengths[-1] is None:
            return ("ring", _ring(self.rules, lengths))
        if lengths[-1] > MOST:
            return ("long", lengths[-1])
        return ("text", self._spelled())

    def _spelled(self):
        """Return the text of the last name, if this name ends and is not long."""
        used = self.used()
        texts = {}
        for name in _ending(self.rules):
            # The text of a name that is not used may be far too long to be written out.
            if name in used:
                rule = self.rules[name]
                texts[name] = rule[1] if rule[0] == "letter" else _joined(rule, texts)
        return texts[len(self.rules) - 1]

    def length(self):
        """Return the number of letters of the text."""
        return len(self.text())

    def size(self):
        """Return the number of used names."""
        return len(self.used())

    def letter(self, position):
        """Return the letter of the text at a position."""
        return letter_at(self.text(), position)

    def copies(self):
        """Return a Copies of the text, with a copy wherever a pair or a power comes again."""
        # A press without a text raises NoText here.
        self.text()
        lengths = self.lengths()
        phrases = []
        met = {}
        place = 0
        # What is still to be walked, the next item last: names, and the phrases of walked names.
        waiting = [("name", len(self.rules) - 1)]
        while waiting:
            item = waiting.pop()
            if item[0] == "name":
                waiting.extend(_opened(self.rules, item[1], place, met, lengths))
                met.setdefault(item[1], place)
            else:
                phrases.append(item)
                place = place + (1 if item[0] == "put" else item[2])
        return Copies(phrases)

    def facts(self):
        """List the facts of every press, and the height."""
        return super().facts() + [("height", self.height())]

    def lengths(self):
        """List the lengths of all names, None for an endless one."""
        listed = [None] * len(self.rules)
        for name in _ending(self.rules):
            rule = self.rules[name]
            listed[name] = 1 if rule[0] == "letter" else _joined(rule, listed)
        return listed

    def height(self):
        """Return the height of the last name, or raise NoText if this name is endless."""
        heights = {}
        for name in _ending(self.rules):
            parts = _parts(self.rules[name])
            heights[name] = 1 + max([heights[part] for part in parts], default=-1)
        last = len(self.rules) - 1
        if last not in heights:
            raise NoText("the last name is endless")
        return heights[last]

    def used(self):
        """List the used names in ascending order."""
        last = len(self.rules) - 1
        seen = {last: True}
        waiting = [last]
        while waiting:
            name = waiting.pop()
            for part in _parts(self.rules[name]):
                if part not in seen:
                    seen[part] = True
                    waiting.append(part)
        return sorted(seen)

    def trail(self, position):
        """List the pairs (name, offset) on the way from the last name to the letter of a position."""
        lengths = self.lengths()
        name = len(self.rules) - 1
        if lengths[name] is None:
            raise NoText("the last name is endless")
        offset = check_position(lengths[name], position)
        walk = [(name, offset)]
        while self.rules[name][0] != "letter":
            name, offset = _below(self.rules[name], offset, lengths)
            walk.append((name, offset))
        return walk

    def __add__(self, other):
        """Return the rules of both presses, and the pair of their last names."""
        many = len(self.rules)
        moved = [_moved(rule, many) for rule in other.rules]
        pair = ("pair", many - 1, many + len(moved) - 1)
        # The constructor raises TooLong if these are too many rules.
        return Rules([*self.rules, *moved, pair])

    def __mul__(self, other):
        """Return the rules with a power of the last name behind them, `other` times in all."""
        if other < 1:
            raise BadCount("a press is repeated at least once")
        if other > MOST:
            raise TooLong("a power repeats its part at most 128 times")
        power = [("power", len(self.rules) - 1, other)] if other > 1 else []
        return Rules(list(self.rules) + power)

    def __neg__(self):
        """Return the rules of the reversed text."""
        return Rules([_mirrored(rule) for rule in self.rules])


def _check_form(rules):
    """Raise the error of the first fault of a list of rules, if there is one."""
    if not rules:
        raise BadPress(0)
    if len(rules) > MOST_RULES:
        raise TooLong("a press has at most 256 rules")
    for index, rule in enumerate(rules):
        if not _is_rule(rule, len(rules)):
            raise BadPress(index)


def _is_rule(rule, many):
    """Tell whether a rule of a press of so many rules is right."""
    if rule[0] == "letter":
        return is_letter(rule[1])
    for part in _parts(rule):
        if not 0 <= part < many:
            return False
    return rule[0] == "pair" or 2 <= rule[2] <= MOST


def _parts(rule):
    """List the names to which a rule refers, the left one first."""
    if rule[0] == "letter":
        return []
    return [rule[1], rule[2]] if rule[0] == "pair" else [rule[1]]


def _ending(rules):
    """List all names that end, each one behind the names to which its rule refers."""
    users = [[] for _ in rules]
    for name, rule in enumerate(rules):
        for part in _parts(rule):
            users[part].append(name)
    # A name is ready as soon as each of its references leads to a name that is listed.
    missing = [len(_parts(rule)) for rule in rules]
    ready = [name for name, many in enumerate(missing) if many == 0]
    listed = []
    while ready:
        name = ready.pop()
        listed.append(name)
        for user in users[name]:
            missing[user] = missing[user] - 1
            if missing[user] == 0:
                ready.append(user)
    return listed


def _joined(rule, known):
    """Return the text or the length of a pair or a power, from those of its parts."""
    if rule[0] == "pair":
        return known[rule[1]] + known[rule[2]]
    return known[rule[1]] * rule[2]


def _ring(rules, lengths):
    """List the names of the ring to which the way from the last name leads, an endless name."""
    walk = []
    name = len(rules) - 1
    while name not in walk:
        walk.append(name)
        endless = [part for part in _parts(rules[name]) if lengths[part] is None]
        name = endless[0]
    return walk[walk.index(name):]


def _opened(rules, name, place, met, lengths):
    """List what is walked for a name at a place, the first item last."""
    rule = rules[name]
    if rule[0] == "letter":
        return [("put", rule[1])]
    if name in met:
        return [("copy", met[name], lengths[name])]
    if rule[0] == "pair":
        return [("name", rule[2]), ("name", rule[1])]
    return [("copy", place, (rule[2] - 1) * lengths[rule[1]]), ("name", rule[1])]


def _below(rule, offset, lengths):
    """Return the name and the offset to which the way goes on from a pair or a power."""
    if rule[0] == "power":
        return (rule[1], offset % lengths[rule[1]])
    if offset < lengths[rule[1]]:
        return (rule[1], offset)
    return (rule[2], offset - lengths[rule[1]])


def _moved(rule, by):
    """Return a rule with all its names increased."""
    if rule[0] == "letter":
        return rule
    if rule[0] == "pair":
        return ("pair", rule[1] + by, rule[2] + by)
    return ("power", rule[1] + by, rule[2])


def _mirrored(rule):
    """Return a rule with the two names of a pair exchanged."""
    return ("pair", rule[2], rule[1]) if rule[0] == "pair" else rule

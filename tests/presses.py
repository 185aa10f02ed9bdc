"""Presses that the tests share, and what they describe, found in the plainest way."""

from itertools import product

# Each of these is no letter of a phrase or of a rule.
WRONG_LETTERS = ["", "aa", "ab", "A", "Z", "7", " ", "\n", "\t", "`", "{", "$", "a\n"]


def numbers(seed):
    """Yield numbers that look irregular and are the same on every run."""
    while True:
        seed = (seed * 1103515245 + 12345) % 2 ** 31
        yield seed >> 16


# Lists of phrases.

def small_phrases(length, letters):
    """List all lists of phrases that cover `length` positions."""
    return [list(way) for way in _ways(length, length, letters)]


def _ways(left, length, letters):
    if left == 0:
        yield ()
    for reach in range(1, left + 1):
        firsts = [("copy", start, reach) for start in range(length - reach + 1)]
        if reach == 1:
            firsts += [("put", letter) for letter in letters]
        for first, rest in product(firsts, list(_ways(left - reach, length, letters))):
            yield (first,) + rest


def mixed_phrases(length, seed, *, letters="ab", earlier=False, puts=4, most=128):
    """Return a list of phrases that covers `length` positions and looks irregular."""
    draw = numbers(seed)
    phrases, place = [], 0
    while place < length:
        starts = place if earlier else length
        if starts == 0 or next(draw) % puts == 0:
            phrases.append(("put", letters[next(draw) % len(letters)]))
            place += 1
            continue
        start = next(draw) % starts
        stretch = 1 + next(draw) % min(length - place, length - start, most)
        phrases.append(("copy", start, stretch))
        place += stretch
    return phrases


def reach(phrase):
    return phrase[2] if phrase[0] == "copy" else 1


def plain_spans(phrases):
    stops = [sum(reach(phrase) for phrase in phrases[:many]) for many in range(len(phrases) + 1)]
    return list(zip(stops, stops[1:]))


def plain_covers(phrases):
    """List, for each position, what is put there or where it is read from."""
    covers = []
    for phrase in phrases:
        if phrase[0] == "put":
            covers.append(phrase[1])
        else:
            covers += [phrase[1] + step for step in range(phrase[2])]
    return covers


def plain_sources(phrases):
    return [None if isinstance(cover, str) else cover for cover in plain_covers(phrases)]


def plain_chain(phrases, position):
    """Return the chain of a position, or None if it never ends."""
    sources = plain_sources(phrases)
    chain = []
    while position is not None:
        if position in chain:
            return None
        chain.append(position)
        position = sources[position]
    return chain


def plain_rings(phrases):
    sources = plain_sources(phrases)
    rings = []
    for first in range(len(sources)):
        walk, position = [], first
        while position is not None and position not in walk:
            walk.append(position)
            position = sources[position]
        if position == first and first == min(walk):
            rings.append(walk)
    return rings


def plain_text(phrases):
    """Return the text, or None if there is a ring."""
    covers = plain_covers(phrases)
    chains = [plain_chain(phrases, position) for position in range(len(covers))]
    return None if None in chains else "".join(covers[chain[-1]] for chain in chains)


def fits(string, phrases):
    covers = plain_covers(phrases)
    return len(string) == len(covers) and all(
        sign == (cover if isinstance(cover, str) else string[cover]) for sign, cover in zip(string, covers))


SMALL_PHRASES = [phrases for length in range(1, 5) for phrases in small_phrases(length, "ab")]

# Presses of 128 positions: earlier, from behind, overlapping, of rings only, with several rings.
LONG_PHRASES = [
    [("put", "a")] * 128,
    [("put", "a"), ("copy", 0, 127)],
    [("copy", 1, 127), ("put", "z")],
    [("put", "a"), ("put", "b"), ("copy", 0, 126)],
    [("copy", 2, 126), ("put", "a"), ("put", "b")],
    [("copy", 64, 64)] + [("put", letter) for letter in "abcdefgh" * 8],
    [("copy", 0, 128)],
    [("copy", 1, 127), ("copy", 0, 1)],
    [("copy", 64, 64), ("copy", 0, 64)],
    [("copy", 127, 1), ("copy", 0, 127)],
    [("put", "q"), ("copy", 0, 63), ("copy", 70, 58), ("copy", 64, 6)],
] + [
    mixed_phrases(128, seed, puts=puts, earlier=earlier, most=most)
    for seed in range(6) for puts in (2, 4) for earlier in (False, True) for most in (7, 128)
]

SOME_PHRASES = [
    [("put", "a"), ("put", "b"), ("copy", 0, 5)],
    [("copy", 3, 3), ("put", "x"), ("put", "y"), ("put", "x")],
    [("put", "a"), ("copy", 2, 1), ("copy", 1, 1)],
    [("copy", 1, 2), ("copy", 0, 1), ("put", "m"), ("copy", 4, 1), ("copy", 3, 2), ("copy", 8, 1), ("copy", 7, 1)],
    [("copy", 2, 4), ("put", "c"), ("copy", 4, 1), ("copy", 0, 3)],
] + [
    mixed_phrases(length, seed, letters="abc", puts=3, earlier=seed % 4 == 0)
    for length in (5, 6, 7, 9, 12, 20, 33) for seed in range(16)
]

MANY_PHRASES = SMALL_PHRASES + SOME_PHRASES + LONG_PHRASES


# Lists of rules.

def parts(rule):
    return {"letter": (), "pair": rule[1:3], "power": rule[1:2]}[rule[0]]


def small_rules(many):
    """List all lists of so many rules over a and b, with powers of 2 and 3."""
    names = range(many)
    rules = [("letter", "a"), ("letter", "b")]
    rules += [("pair", left, right) for left in names for right in names]
    rules += [("power", part, times) for part in names for times in (2, 3)]
    return [list(chosen) for chosen in product(rules, repeat=many)]


def mixed_rules(many, seed, *, loose=False):
    """Return rules that look irregular; only loose ones refer to later names or to themselves."""
    draw = numbers(seed)
    rules = []
    for name in range(many):
        names = many if loose else name
        kind = next(draw) % 5
        if names == 0 or name < 2 or kind == 0 and name < many - 1:
            rules.append(("letter", "abc"[next(draw) % 3]))
        elif kind == 1:
            rules.append(("power", next(draw) % names, 2 + next(draw) % 2))
        else:
            # References to the last few names make long ways.
            rules.append(("pair", max(0, names - 1 - next(draw) % 4), next(draw) % names))
    return rules


def settled(rules, told):
    """List what is told of each name by its rule and by what is told of its parts, None if it is endless."""
    found = [None] * len(rules)
    for _ in rules:
        for name, rule in enumerate(rules):
            below = [found[part] for part in parts(rule)]
            if None not in below:
                found[name] = told(rule, below)
    return found


def plain_lengths(rules):
    return settled(rules, lambda rule, below: {
        "letter": 1, "pair": sum(below), "power": sum(below) * rule[-1]}[rule[0]])


def plain_height(rules):
    """Return the height of the last name, or None if this name is endless."""
    return settled(rules, lambda rule, below: 1 + max(below, default=-1))[-1]


def plain_used(rules):
    used = {len(rules) - 1}
    for _ in rules:
        used |= {part for name in used for part in parts(rules[name])}
    return sorted(used)


def spell(rules, name):
    """Return the text of a name that ends and is short."""
    rule = rules[name]
    if rule[0] == "letter":
        return rule[1]
    if rule[0] == "pair":
        return spell(rules, rule[1]) + spell(rules, rule[2])
    return spell(rules, rule[1]) * rule[2]


def plain_rules_verdict(rules):
    lengths = plain_lengths(rules)
    if lengths[-1] is None:
        walk = [len(rules) - 1]
        while True:
            name = next(part for part in parts(rules[walk[-1]]) if lengths[part] is None)
            if name in walk:
                return ("ring", walk[walk.index(name):])
            walk.append(name)
    return ("long", lengths[-1]) if lengths[-1] > 128 else ("text", spell(rules, len(rules) - 1))


def power_chain(letter, many, times=2):
    """Return the rules of a letter that is repeated `times` times, `many` times over."""
    return [("letter", letter)] + [("power", name, times) for name in range(many)]


def pair_chain(letter, many):
    """Return the rules of a letter that is doubled by pairs, `many` times over."""
    return [("letter", letter)] + [("pair", name, name) for name in range(many)]


SMALL_RULES = [rules for many in (1, 2, 3) for rules in small_rules(many)]

# Whose last name ends, with a text of up to 128 letters.
TEXT_RULES = [
    [("letter", "a"), ("letter", "b"), ("pair", 0, 1), ("power", 2, 3)],
    [("power", 1, 2), ("pair", 2, 3), ("letter", "x"), ("letter", "y"), ("pair", 0, 0)],
    [("letter", "a"), ("pair", 1, 1), ("pair", 0, 0)],
    power_chain("a", 7), pair_chain("z", 7), power_chain("q", 1, 128), power_chain("q", 1, 127),
    [("letter", "b"), ("pair", 0, 0), ("power", 1, 63), ("pair", 1, 2)],
    [("power", 1, 128), ("power", 0, 2), ("letter", "c")],
] + [
    rules for many in (4, 5, 6, 8, 11, 15) for seed in range(40)
    for rules in [mixed_rules(many, seed)] if plain_lengths(rules)[-1] <= 128
]
LOOSE_RULES = [mixed_rules(many, seed, loose=True) for many in (3, 4, 5, 6, 8, 11) for seed in range(60)]
LONG_RULES = [
    power_chain("a", 100, 128), power_chain("a", 8), pair_chain("a", 8), pair_chain("a", 255),
    power_chain("a", 255, 128),
    [("letter", "a"), ("power", 0, 128), ("pair", 0, 1)],
    [("letter", "a"), ("letter", "b"), ("power", 1, 128), ("power", 2, 128), ("pair", 0, 3)],
]
MANY_RULES = SMALL_RULES + TEXT_RULES + LOOSE_RULES + LONG_RULES


# Rows of last letters.

def plain_order(text):
    """List the starts of the sorted suffixes."""
    return sorted(range(len(text) + 1), key=lambda start: text[start:])


def plain_row(text):
    return "".join(("$" + text)[start] for start in plain_order(text))


def all_rows(letters, most):
    """List all rows of up to `most` signs over these letters."""
    return [
        "".join(signs[:at] + ("$",) + signs[at:])
        for length in range(1, most) for signs in product(letters, repeat=length) for at in range(length + 1)]


# Ladders, each as a pair of its length and its levels.

def plain_blocks(length, levels, level):
    """List the stretches of all blocks of a level."""
    reach = 2 ** (len(levels) - 1 - level)
    return [(first, min(first + reach, length)) for first in range(0, length, reach)]


def plain_open(levels, level):
    return [block for block, entry in levels[level] if entry is None or isinstance(entry, str)]


def plain_kept(length, levels, level):
    """List the blocks that are kept on a level."""
    blocks = plain_blocks(length, levels, level)
    if level == 0:
        return list(range(len(blocks)))
    above = plain_blocks(length, levels, level - 1)
    opened = [above[block] for block in plain_open(levels, level - 1)]
    return [block for block, (start, stop) in enumerate(blocks)
            if any(first <= start and stop <= last for first, last in opened)]


def plain_fits(length, levels, level, block, start):
    """Tell whether a closed block may have this start."""
    blocks = plain_blocks(length, levels, level)
    stop = start + blocks[block][1] - blocks[block][0]
    touched = [other for other, (first, last) in enumerate(blocks) if start < last and first < stop]
    return start >= 0 and stop <= length and set(touched) <= set(plain_open(levels, level))


def plain_ladder_fault(length, levels):
    """Return the number of the first wrong level, or None."""
    last = len(levels) - 1
    for level, pairs in enumerate(levels):
        if [block for block, _ in pairs] != plain_kept(length, levels, level):
            return level
        for block, entry in pairs:
            if isinstance(entry, int):
                right = plain_fits(length, levels, level, block, entry)
            elif entry is None:
                right = level < last
            else:
                right = level == last and len(entry) == 1 and entry in "abcdefghijklmnopqrstuvwxyz"
            if not right:
                return level
    return None


def plain_ladder_trail(length, levels, position):
    walk = [(0, position)]
    while True:
        level, place = walk[-1]
        blocks = plain_blocks(length, levels, level)
        block = next(block for block, (start, stop) in enumerate(blocks) if start <= place < stop)
        entry = next(entry for other, entry in levels[level] if other == block)
        if isinstance(entry, str):
            return walk
        walk.append((level + 1, place) if entry is None else (level, entry + place - blocks[block][0]))


def plain_ladder_text(length, levels):
    letters = []
    for position in range(length):
        level, place = plain_ladder_trail(length, levels, position)[-1]
        letters.append(dict(levels[level])[place])
    return "".join(letters)


def small_ladders(length, height, letters):
    """List all ladders of a length and a height."""
    found = [[]]
    for level in range(height + 1):
        found = [levels + [pairs] for levels in found for pairs in _small_levels(length, height, levels, letters)]
    return [(length, levels) for levels in found]


def _small_levels(length, height, levels, letters):
    """Yield all right levels that may follow behind these."""
    level = len(levels)
    rest = [[]] * (height + 1 - level)
    kept = plain_kept(length, levels + rest, level)
    right = [None] if level < height else list(letters)
    for entries in product(right + list(range(length)), repeat=len(kept)):
        pairs = list(zip(kept, entries))
        if plain_ladder_fault(length, (levels + [pairs] + rest)[:height + 1]) in (None, level + 1):
            yield pairs


def mixed_ladder(length, height, seed, letters="abc"):
    """Return a ladder that looks irregular."""
    draw = numbers(seed)
    levels = [[] for _ in range(height + 1)]
    for level in range(height + 1):
        kept = plain_kept(length, levels, level)
        chosen = [block for block in kept if next(draw) % 3] or kept[:1]
        entries = {block: letters[next(draw) % len(letters)] if level == height else None for block in kept}
        levels[level] = [(block, entries[block]) for block in chosen]
        # A block that finds no open stretch is open, too.
        for block in kept:
            if block not in chosen:
                drawn = [next(draw) % length for _ in range(8)]
                starts = [start for start in drawn if plain_fits(length, levels, level, block, start)]
                if starts:
                    entries[block] = starts[0]
                else:
                    levels[level].append((block, entries[block]))
        levels[level] = [(block, entries[block]) for block in kept]
    return (length, levels)


SMALL_LADDERS = [
    ladder for length in range(1, 5) for height in range(4) for ladder in small_ladders(length, height, "ab")]
SOME_LADDERS = [
    mixed_ladder(length, height, seed) for length in (5, 6, 7, 8, 9, 15, 16, 17, 30) for height in range(8)
    for seed in range(3)]
LONG_LADDERS = [mixed_ladder(128, height, seed, "ab") for height in range(8) for seed in range(2)] + [
    mixed_ladder(length, height, 9) for length in (33, 64, 65, 100, 127) for height in (2, 4, 5, 6, 7)]
MANY_LADDERS = SMALL_LADDERS + SOME_LADDERS + LONG_LADDERS

"""The lines that a journal and a desk take: their words, what stands behind them, and the deeds that they tell."""

from roundedsteps.texts import read_integer

# As the document writes the forms; two points for one such word or more.
FORMS = {
    "narrow": "NAME LOW HIGH",
    "see": "NAME LOW HIGH",
    "refine": "NAME MORE",
    "put": "LINE",
    "take": "NAME",
    "tell": "NAME ..",
    "claim": "WORD ..",
    "unclaim": "NUMBER",
    "undo": "",
    "redo": "",
    "many": "",
    "holds": "",
    "spread": "NAME",
    "run": "NUMBER ..",
    "step": "NAME",
}


def read_line(line):
    """The word of a line and the parts behind it, (word, parts); None if it has no form."""
    words = line.split(" ")
    if "" in words or words[0] not in FORMS:
        return None
    kinds = FORMS[words[0]].split()
    parts = read_long(kinds, words[1:]) if is_long(kinds) else read_short(kinds, words[1:])
    return None if None in parts else (words[0], parts)


def is_long(kinds):
    """Whether one word or more make one part."""
    return kinds == ["LINE"] or ".." in kinds


def read_long(kinds, words):
    """The one part that these words make, a list of it; None in it if they make none."""
    if not words:
        return [None]
    if kinds == ["LINE"]:
        return [" ".join(words)]
    part = tuple([read_word(kinds[0], word) for word in words])
    return [None if None in part else part]


def read_short(kinds, words):
    """The parts that these words make, one each; None in them if they do not."""
    if len(words) != len(kinds):
        return [None]
    return [read_word(kind, word) for kind, word in zip(kinds, words)]


def read_word(kind, word):
    """What a word of this kind tells, None if it cannot be of it."""
    if kind == "NAME":
        return word
    number = read_integer(word)
    return word if number is None and kind == "WORD" else number


def deeds_of(bench):
    """What does each deed on the bench, by the words of their lines."""
    return {"narrow": bench.narrow, "see": bench.see, "refine": bench.refine, "put": bench.put, "take": bench.take,
            "tell": bench.tell, "claim": bench.claim, "unclaim": bench.unclaim}

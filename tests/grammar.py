"""The grammar of texts, for tests: which words can stand behind which.

Words are followed by all readings at once, so that this has nothing in common
with a reader that decides word by word.
"""

from tests.trees import RESERVED

RULES = {
    "program": ("list", "def NAME { list } program"),
    "list": ("joined", "list ; joined"),
    "joined": ("piped", "joined && piped", "joined || piped"),
    "piped": ("part", "piped | part"),
    "part": ("unit", "! part"),
    "unit": ("NAME", "status NUMBER", "give NAME", "zero NAME", "keep NAME", "put NAME NUMBER",
             "option word switch", "trap kind off", "trap kind { list }", "{ list }", "( list )",
             "if list then list end", "if list then list else list end", "while list do list end",
             "until list do list end", "times NUMBER do list end", "break NUMBER", "next NUMBER",
             "call NAME", "return", "return NUMBER", "exit", "exit NUMBER"),
    "word": ("fail", "pipes"),
    "switch": ("on", "off"),
    "kind": ("end", "fail"),
}
SIGNS = "{ } ; | && || ! ( )".split()


def kind_of(word):
    """Returns the word as the rules name it, None if it can stand nowhere."""
    if word in RESERVED or word in SIGNS:
        return word
    if word and len(word) <= 12 and all("a" <= letter <= "z" for letter in word):
        return "NAME"
    if len(word) <= 4 and word.isascii() and word.isdigit() and str(int(word)) == word:
        return "NUMBER"
    return None


def first_fault(words):
    """Returns the number of the first word that cannot stand, None if there is none."""
    kinds = [kind_of(word) for word in words]
    if None in kinds:
        return kinds.index(None)
    columns = [closed([], [("start", ("program",), 0, 0)])]
    for place, kind in enumerate(kinds):
        column = columns[-1]
        moved = [(head, body, dot + 1, start) for head, body, dot, start in column
                 if dot < len(body) and body[dot] == kind]
        if not moved:
            return place
        columns.append(closed(columns, moved))
    finished = ("start", ("program",), 1, 0) in columns[-1]
    return None if finished else len(words)


def closed(columns, items):
    """Returns all items that follow from these; `columns` are those before. No rule is empty."""
    here = len(columns)
    found = dict.fromkeys(items)
    coming = list(found)
    while coming:
        head, body, dot, start = coming.pop()
        if dot == len(body):
            more = [(h, b, d + 1, s) for h, b, d, s in (columns[start] if start < here else ())
                    if d < len(b) and b[d] == head]
        elif body[dot] in RULES:
            more = [(body[dot], tuple(rule.split()), 0, here) for rule in RULES[body[dot]]]
        else:
            more = []
        for item in more:
            if item not in found:
                found[item] = None
                coming.append(item)
    return found

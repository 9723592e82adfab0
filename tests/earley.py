"""The grammar of [13] and of the lines of [14] as rules, and a plain chart over them: it tells the first word
behind which no text can go on, straight from the rules."""

NUMBER_WORDS = {"NUMBER": lambda word: is_number(word) and len(word) < 5,
                "BACK": lambda word: is_number(word) and word != "0",
                "ANY": lambda word: is_number(word),
                "NAME": lambda word: 0 < len(word) < 13 and all("a" <= sign <= "z" for sign in word)
                and word not in ("round", "if", "then", "else", "task", "wait", "first")}

RULES = {
    "LINE": ("task NAME first NUMBER = CHOICE", "wait NAME NAME ANY"),
    "CHOICE": ("if CHOICE then CHOICE else CHOICE", "LESS"),
    "LESS": ("SUM", "SUM < SUM"),
    "SUM": ("PRODUCT", "SUM + PRODUCT", "SUM - PRODUCT"),
    "PRODUCT": ("ATOM", "PRODUCT * ATOM"),
    "ATOM": ("NUMBER", "round", "NAME", "NAME @ BACK", "( CHOICE )"),
}
RULES = {head: tuple(tuple(rule.split()) for rule in rules) for head, rules in RULES.items()}


def is_number(word):
    return word != "" and not set(word) - set("0123456789") and (word == "0" or word[0] != "0")


def fits(sign, word):
    if sign in NUMBER_WORDS:
        return NUMBER_WORDS[sign](word)
    return sign == word


def completed(states, charts):
    """All that follows from some states (head, rule, dot, begin) without a word more."""
    found = set(states)
    left = list(states)
    at = len(charts)
    while left:
        head, rule, dot, begin = left.pop()
        more = []
        if dot == len(rule):
            whole = charts[begin] if begin < at else found
            more = [(one, other, place + 1, start) for one, other, place, start in whole
                    if place < len(other) and other[place] == head]
        elif rule[dot] in RULES:
            more = [(rule[dot], other, 0, at) for other in RULES[rule[dot]]]
        for state in more:
            if state not in found:
                found.add(state)
                left.append(state)
    return found


def fault_of(words, goal="CHOICE"):
    """The index of the first word behind which no text can go on, of the number of words if it ends too early;
    None if the words are a text."""
    charts = [completed({(goal, rule, 0, 0) for rule in RULES[goal]}, [])]
    for at, word in enumerate(words):
        states = {(head, rule, dot + 1, begin) for head, rule, dot, begin in charts[-1]
                  if dot < len(rule) and rule[dot] not in RULES and fits(rule[dot], word)}
        if not states:
            return at
        charts.append(completed(states, charts))
    if any(head == goal and dot == len(rule) and begin == 0 for head, rule, dot, begin in charts[-1]):
        return None
    return len(words)

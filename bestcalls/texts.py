"""Programs written as texts."""


def kind_line(kind):
    """The line of a kind (name, elders), without its line end."""
    name, elders = kind
    if not elders:
        return f"kind {name}"
    return f"kind {name} < " + " ".join(elders)


def deed_line(name, places):
    """The line of a deed, without its line end."""
    return f"deed {name} {places}"


def pick_word(pick):
    """The word of a pick."""
    if pick[0] == "own":
        return str(pick[1])
    return f"{pick[1]}:{pick[2]}"


def step_words(step):
    """The words of a step."""
    if step[0] == "call":
        return " ".join(["call", step[1]] + [pick_word(pick) for pick in step[2]])
    return " ".join([str(part) for part in step])


def rule_line(deed, rule):
    """The line of a rule (name, kinds, steps) of the deed of this name, without its line end."""
    name, kinds, steps = rule
    head = " ".join(["rule", deed, name] + list(kinds))
    if not steps:
        return head
    return f"{head} = " + ", ".join([step_words(step) for step in steps])


def shown(program):
    """The text of a program: its kinds, then its deeds, then their rules, a line each."""
    web, deeds = program
    lines = [kind_line(kind) for kind in web]
    lines.extend([deed_line(name, places) for name, places, rules in deeds])
    lines.extend([rule_line(name, rule) for name, places, rules in deeds for rule in rules])
    return "".join([f"{line}\n" for line in lines])

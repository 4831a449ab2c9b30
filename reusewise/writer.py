"""Writes the text of a program."""


def shown(program):
    rows = [kind_row(kind) for kind in program[0]] + [def_row(one) for one in program[1]]
    return "\n".join(rows)


def kind_row(kind):
    words = ["kind"]
    for tag, size in kind:
        words.extend([tag, str(size)])
    return " ".join(words)


# What is still to be written is kept in a list, the next of it last, so that no depth fells the
# writer, as calls within calls would.
def def_row(one):
    words = ["def", one[0]] + list(one[1]) + ["="]
    left = [one[2]]
    while len(left) > 0:
        piece = left.pop()
        if isinstance(piece, str):
            words.append(piece)
        else:
            for part in reversed(written(piece)):
                left.append(part)
    return " ".join(words)


# The words of a body, with the bodies within it as they are.
def written(body):
    if body[0] == "let":
        return ["let", body[1]] + deed_words(body[2]) + [body[3]]
    if body[0] == "if":
        return ["if", body[1], body[2], "else", body[3]]
    if body[0] == "case":
        return case_words(body)
    return ["give", body[1]]


def case_words(body):
    words = ["case", body[1]]
    for tag, names, within in body[2]:
        words.extend([tag] + list(names) + [":", within])
    return words + ["end"]


def deed_words(deed):
    if deed[0] == "num":
        return ["num", str(deed[1])]
    if deed[0] == "op":
        return list(deed[1:])
    return [deed[0], deed[1]] + list(deed[2]) + [";"]

"""The tags of the kinds."""


def sizes(kinds):
    found = {}
    for kind in kinds:
        for tag, size in kind:
            found[tag] = size
    return found


def lacking(kinds, tags):
    return [tag for tag in kin(kinds, tags[0]) if tag not in tags]


# The tags of the kind that has this one, in their order; none where no kind has it.
def kin(kinds, tag):
    for kind in kinds:
        tags = [pair[0] for pair in kind]
        if tag in tags:
            return tags
    return []

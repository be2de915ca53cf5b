"""Whether a step fits the names that are held, and what is held behind it [11]."""


def fits(step, kept, name):
    asks = step[1]
    if asks == "any":
        return True
    if asks == "fresh":
        return name not in kept
    return kept[asks] == name


def filled(step, kept, name):
    return tuple([held_by(fill, kept, name) for fill in step[3]])


def held_by(fill, kept, name):
    if fill is None:
        return None
    return name if fill == "new" else kept[fill]

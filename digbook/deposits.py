"""Deposits: layers that are said to be one, and the ties between them as links."""


def names_by_layer(ground):
    names = {}
    for layer in ground.layers():
        names[layer] = layer
    for word, one, other in ground.sayings():
        if word == "same":
            join_deposits(names, one, other)
    # Each layer points to itself or to a lesser one, which is done with already.
    for layer in ground.layers():
        names[layer] = names[names[layer]]
    return names


def join_deposits(names, one, other):
    first = least_pointed_to(names, one)
    second = least_pointed_to(names, other)
    names[max(first, second)] = min(first, second)


def least_pointed_to(names, layer):
    while names[layer] != layer:
        layer = names[layer]
    return layer


def deposits(ground):
    names = names_by_layer(ground)
    groups = {}
    # The layers come sorted, so each group is, and the groups come by their least ones.
    for layer in ground.layers():
        groups.setdefault(names[layer], []).append(layer)
    return list(groups.values())


def deposit_of(ground, layer):
    return names_by_layer(ground)[layer]


def deposit_names(ground):
    return [group[0] for group in deposits(ground)]


def links(ground):
    names = names_by_layer(ground)
    return sorted(set([(names[later], names[earlier], source) for later, earlier, source in ground.ties()]))

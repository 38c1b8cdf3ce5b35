"""Pictures seen from far: told by fewer parts, and wrong at some spots."""

from fourfold.pictures import lean
from fourfold.rules import check_word
from fourfold.sums import counts
from fourfold.trees import lean_tree, put_together


def worths_met(many):
    return [worth for worth, times in enumerate(many) if times > 0]


def most_met(many):
    # Of several that are met as often, index finds the least.
    return many.index(max(many))


def least_met(many):
    return worths_met(many)[0]


def greatest_met(many):
    return worths_met(many)[-1]


# By each word: the worth of a part, by how many of its spots have each worth.
VIEWS = {"most": most_met, "least": least_met, "greatest": greatest_met}


def seen_tree(size, tree, far, choose):
    if not isinstance(tree, tuple):
        return tree
    if far == 0:
        return choose(counts((size, tree)))
    return put_together(tuple([seen_tree(size - 1, part, far - 1, choose) for part in tree]))


def seen_from(picture, far, rule):
    check_word(rule, list(VIEWS))
    told = lean(picture)
    return (told[0], seen_tree(told[0], told[1], far, VIEWS[rule]))


def wrong_in(view):
    return view[0]


def best_couple(views, others, times):
    known = []
    for number, view in enumerate(views):
        if 0 <= times - number < len(others):
            other = others[times - number]
            known.append((view[0] + other[0], view[1] + (other[1],)))
    return min(known, key=wrong_in)


def with_part(views, others):
    return [best_couple(views, others, times) for times in range(len(views) + len(others) - 1)]


# Told is a list by how often a tree may be parted: the fewest wrong spots, and a tree with so many.
def best_trees(size, tree):
    if not isinstance(tree, tuple):
        return [(0, tree)]
    many = counts((size, tree))
    views = [(0, ())]
    for part in tree:
        views = with_part(views, best_trees(size - 1, part))
    # Four quarters are never wrong at more spots than the whole, so no other choice is lost.
    return [(sum(many) - max(many), most_met(many))] + views


def best_tree(picture, most):
    told = lean(picture)
    trees = best_trees(told[0], told[1])
    # Each time that a part is parted, there are three parts more.
    times = max(0, most - 1) // 3
    return trees[min(times, len(trees) - 1)]


def best_view(picture, most):
    tree = best_tree(picture, most)[1]
    return (picture[0], lean_tree(tree))


def least_wrong(picture, most):
    return best_tree(picture, most)[0]

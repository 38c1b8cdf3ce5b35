"""Pictures joined by rules of worths, led over tables and shaped by masks."""

from fourfold.errors import NoRule, Unlike
from fourfold.pictures import check_picture, lean
from fourfold.trees import GREATEST_WORTH, is_worth, lean_tree, put_together, quarters_in


def first_worth(one, other):
    return one


def last_worth(one, other):
    return other


def least_worth(one, other):
    return min(one, other)


def greatest_worth(one, other):
    return max(one, other)


def sum_worth(one, other):
    return (one + other) % 10


def times_worth(one, other):
    return one * other % 10


def less_worth(one, other):
    return abs(one - other)


def same_worth(one, other):
    return 1 if one == other else 0


RULES = {
    "first": first_worth,
    "last": last_worth,
    "least": least_worth,
    "greatest": greatest_worth,
    "sum": sum_worth,
    "times": times_worth,
    "less": less_worth,
    "same": same_worth,
}


def check_word(thing, words):
    if thing not in words:
        raise NoRule("this is no word of a rule")


def check_rule(thing):
    check_word(thing, list(RULES))


def is_table(thing):
    if not isinstance(thing, tuple) or len(thing) != GREATEST_WORTH + 1:
        return False
    return all([is_worth(worth) for worth in thing])


def check_table(thing):
    if not is_table(thing):
        raise NoRule("a table is a tuple of ten worths")


def check_sizes(things):
    for thing in things:
        if thing[0] != things[0][0]:
            raise Unlike("these are of unlike sizes")


def check_pictures(pictures):
    # All are asked ahead of their sizes, as Unlike comes behind NoPicture.
    for picture in pictures:
        check_picture(picture)
    check_sizes(pictures)


def joined_tree(make, one, other):
    if not isinstance(one, tuple) and not isinstance(other, tuple):
        return make(one, other)
    couples = list(zip(quarters_in(one), quarters_in(other)))
    return put_together(tuple([joined_tree(make, couple[0], couple[1]) for couple in couples]))


def joined(rule, one, other):
    check_rule(rule)
    check_pictures([one, other])
    return (one[0], joined_tree(RULES[rule], one[1], other[1]))


def led_tree(table, tree):
    if not isinstance(tree, tuple):
        return table[tree]
    return put_together(tuple([led_tree(table, part) for part in tree]))


def led_over(table, picture):
    check_table(table)
    check_picture(picture)
    return (picture[0], led_tree(table, picture[1]))


def all_joined(rule, pictures):
    check_rule(rule)
    check_pictures(pictures)
    # No point refuses an empty list, and nothing is said to be told of it.
    if len(pictures) == 0:
        return None
    told = lean(pictures[0])
    for picture in pictures[1:]:
        told = joined(rule, told, picture)
    return told


def shaped_tree(tree, mask, other):
    if not isinstance(mask, tuple):
        return lean_tree(other if mask == 0 else tree)
    trees = quarters_in(tree)
    others = quarters_in(other)
    return put_together(tuple([shaped_tree(trees[number], mask[number], others[number]) for number in range(4)]))


def shaped(picture, mask, other):
    check_pictures([picture, mask, other])
    return (picture[0], shaped_tree(picture[1], mask[1], other[1]))

"""Wishes of all seven sorts, asked by their tuples."""

from seekhall.sames import Same, plain_wish_of


def wish_of(wish):
    if wish[0] == "same":
        return Same(wish)
    return plain_wish_of(wish)


def is_kept(wish, filling):
    return wish_of(wish).kept(filling)


def may_be_kept(wish, rooms):
    return wish_of(wish).may_keep(rooms)


def may_be_broken(wish, rooms):
    return wish_of(wish).may_break(rooms)

"""Merging grains that are alike, and parting what a file shares again; nothing that is read is changed by it."""

from lentloft.errors import NoRoom
from lentloft.kinds import is_most, is_name, need
from lentloft.loft import Loft
from lentloft.owing import grains_of


def likes(loft):
    """Tell the kept grains, rising, of each content that two of them or more have, by their first grains."""
    need(isinstance(loft, Loft))
    alike = {}
    for grain in loft.kept():
        alike.setdefault(loft.content_of(grain), []).append(grain)
    return [alike[content] for content in alike if len(alike[content]) > 1]


def merge(loft, most):
    """Exchange grains for lesser ones alike, at most so many times, and tell how many were."""
    need(isinstance(loft, Loft), is_most(most))
    done = 0
    groups = likes(loft)
    while groups and done < most:
        # The second of a group is its least grain that has a lesser one alike.
        grain, least = min([(group[1], group[0]) for group in groups])
        loft.exchange(grain, least)
        done += 1
        groups = likes(loft)
    return done


def many_to_part(loft, grains):
    """Tell how many of a file's grains, told place by place, must be laid anew to be held by one place each."""
    kinds = sorted(set(grains))
    # One place may keep a grain that no other file holds.
    return len(grains) - len([grain for grain in kinds if grains.count(grain) == loft.holds(grain)])


def part(loft, name):
    """Lay a grain of its own for each place of a living file that shares one, and tell how many were laid."""
    need(isinstance(loft, Loft), is_name(name))
    pairs = grains_of(loft, "", name)
    many = many_to_part(loft, [grain for place, grain in pairs])
    if many > loft.left():
        raise NoRoom()
    for place, grain in pairs:
        if loft.holds(grain) > 1:
            loft.write(name, place, [loft.content_of(grain)])
    return many

"""Pictures seen alike: by how few unlike ones it still surely comes out which of two reels shows a film."""

from dropframes.checks import check_reel, check_two, check_view
from dropframes.errors import TooMany
from dropframes.pairs import comes_out

MOST_UNLIKE = 7


def viewed(one, other, view):
    """Return the pair of both reels, each picture put by the least one of its tuple in the view."""
    check_reel(one)
    check_reel(other)
    check_view(view, one, other)
    least = {picture: lot[0] for lot in view for picture in lot}
    return seen(one, least), seen(other, least)


def coarsest_views(one, other, gap):
    """Return the ascending tuple of the views of as few tuples as can be by which it surely comes out, or ()."""
    check_two(one, other, gap)
    pictures = sorted(set(one[1] + other[1]))
    if len(pictures) > MOST_UNLIKE:
        raise TooMany(MOST_UNLIKE)
    # What more pictures seen alike tell, fewer tell, too: without this no view does.
    if not comes_out(one, other, gap):
        return ()
    views = views_of(pictures)
    found = []
    many = 0
    while len(found) == 0:
        many += 1
        found = [view for view in views if len(view) == many and tells(one, other, gap, view)]
    return tuple(sorted(found))


def seen(reel, least):
    """Return a reel with other pictures, least telling which one each of them is put by."""
    return reel[0], tuple([least[picture] for picture in reel[1]])


def tells(one, other, gap, view):
    """Tell whether it surely comes out which of the two viewed reels it is."""
    first, second = viewed(one, other, view)
    return comes_out(first, second, gap)


def views_of(pictures):
    """Return the views of an ascending list of pictures, none of their tuples empty."""
    found = [()]
    for picture in pictures:
        found = [longer for view in found for longer in with_picture(view, picture)]
    return found


def with_picture(view, picture):
    """Return the views with one picture more, a greater one than all of theirs: in each tuple, and by itself."""
    joined = [view[:at] + (lot + (picture,),) + view[at + 1:] for at, lot in enumerate(view)]
    return joined + [view + ((picture,),)]

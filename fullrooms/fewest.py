"""By how few deeds a stand is led to a wish."""

from fullrooms.errors import NoPlace
from fullrooms.pieces import check_like, is_stuck, shut_pieces, too_many


def check_way(house, stand, wish):
    """Refuse a wish that no deeds lead to."""
    check_like(stand, wish)
    if is_stuck(house, stand, wish):
        raise NoPlace()


def fewest(house, stand, wish):
    """The fewest deeds, one behind another, by which the stand is led to the wish."""
    check_way(house, stand, wish)
    # Each thing that is too many must be carried. Into a shut piece nothing can go till something there is
    # out of the way: that is one deed more for each such piece.
    return too_many(stand, wish) + len(shut_pieces(house, stand, wish))

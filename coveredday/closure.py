"""The least sums of chains of rows."""


def closed_sums(assets, rows):
    """The least sum of a chain for each pair of assets that has one, two like assets included.

    The numbers of rows may be below 0 as long as no chain back to its beginning has a sum below 0.
    """
    sums = {}
    for asset in assets:
        sums[asset, asset] = 0
    for up, down, most in rows:
        if (up, down) not in sums or most < sums[up, down]:
            sums[up, down] = most
    for middle in assets:
        for up in assets:
            for down in assets:
                if (up, middle) in sums and (middle, down) in sums:
                    through = sums[up, middle] + sums[middle, down]
                    if (up, down) not in sums or through < sums[up, down]:
                        sums[up, down] = through
    return sums

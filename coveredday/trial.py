"""Trials: blocks behind which a house is as it was."""


class Trial:
    """Serves for one block. The last one of the ledgers is what the house holds."""

    def __init__(self, house, ledgers):
        self._house = house
        self._ledgers = ledgers

    def __enter__(self):
        # What earlier trials replaced is needed no more; what this one keeps comes back behind the block.
        del self._ledgers[:-1]
        self._kept = self._ledgers[-1].copied()
        return self._house

    def __exit__(self, kind, value, trace):
        self._ledgers.append(self._kept)

"""Trials: blocks behind which a bench is again as it was ahead of them."""


class Trial:
    """What a bench was at the beginning of a block; it is put back at the end, also behind an error."""

    def __init__(self, bench):
        self._bench = bench

    def __enter__(self):
        bench = self._bench
        self._store = bench._store
        self._orders = bench._orders
        self._promise = bench._promise
        # The bench changes no dict of orders, but it lengthens its list of changes.
        self._past = list(bench._past)
        return bench

    def __exit__(self, kind, value, trace):
        bench = self._bench
        bench._store = self._store
        bench._orders = self._orders
        bench._promise = self._promise
        bench._past = self._past

"""A bench, at which orders are put into a store."""

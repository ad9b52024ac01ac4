"""Splitseed: draws for many hands from one seed."""

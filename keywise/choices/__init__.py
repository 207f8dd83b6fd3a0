"""Arrows between literals, and the two-replica policies that follow from them."""

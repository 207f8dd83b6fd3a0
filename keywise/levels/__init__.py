"""Threshold policies, and the levels that they come from."""

"""Sums modulo 2."""

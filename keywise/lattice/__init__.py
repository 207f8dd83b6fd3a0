"""Minimum or maximum for each key."""

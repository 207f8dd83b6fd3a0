"""Texts of values, and a shell of commands."""

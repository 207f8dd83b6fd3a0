"""Rows, partial rows, rules and formulas."""

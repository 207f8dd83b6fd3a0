"""The patterns that a rule forbids."""

"""The least rules that policies keep."""

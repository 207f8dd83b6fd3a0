"""Changed rules and changed policies."""

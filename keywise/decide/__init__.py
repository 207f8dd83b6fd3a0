"""Whether some policy keeps a rule without copying a replica."""

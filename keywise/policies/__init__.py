"""Policies, which merge the rows of several replicas key by key."""

"""Keywise: merging replicas key by key without breaking their rule."""

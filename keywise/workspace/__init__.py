"""Workspaces: rules that are edited while policies are watched."""

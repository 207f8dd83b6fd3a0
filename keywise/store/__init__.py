"""Stores of replicas that exchange messages, and forecasts of what they can show."""

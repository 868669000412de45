"""Rootsabove: how many roots lie above, for all trials, borders, changes, nearby tables."""

"""Samegaps: rows of marks told by their differences, exactly."""

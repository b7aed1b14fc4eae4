"""Emptypulls: what it costs that a trailer is there whenever a load comes."""

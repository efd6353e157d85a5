"""Surepipes: nets of pipes whose curves nobody knows."""

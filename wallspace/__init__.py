"""Walls through space, and the lands between them."""

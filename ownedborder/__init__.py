"""Owned boxes, moved, looked at and lent, and which bars may be left out together."""

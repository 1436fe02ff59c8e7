"""Webs of arrows turned at their nodes, and numbers that always divide."""

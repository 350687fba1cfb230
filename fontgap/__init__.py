"""Fontgap: how far the widths of two fonts part, over all texts."""

"""Maprows: what holds for all rows of linear maps."""

"""Drawnrings: a curtain on a rail, for all numbers of rings and all standings."""

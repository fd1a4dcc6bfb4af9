"""The tests of drawnrings."""

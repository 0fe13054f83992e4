"""Fractions written in a base by figures: those ahead and those that come round."""

"""Chanceduel: two hands and chance on one floor, reckoned exactly."""

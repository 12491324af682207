"""Coveredday: a market day whose house must never pay."""

"""Retryhall: deeds that are whole or nothing, woven in any way."""

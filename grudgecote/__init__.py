"""Grudgecote: doves that hand grudges to and fro, some asleep."""

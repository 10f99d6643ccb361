"""Gatewhole: gates, formulas of them, and which tables they can make."""

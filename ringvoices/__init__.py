"""Ringvoices: which few voices tell a row on rings."""

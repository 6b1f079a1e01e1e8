"""Lookstop: stopping tables for repeated trials, with exact bounds for every true share."""

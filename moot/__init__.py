"""Moot: an order of business, kept motion by motion."""

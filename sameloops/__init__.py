"""Wirings that no part can tell from one another."""

"""Ordershown: histories that some order explains."""

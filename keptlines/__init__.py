"""Keptlines: command lines that keep their meaning."""

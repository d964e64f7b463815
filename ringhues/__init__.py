"""Ringhues: hues on a ring."""

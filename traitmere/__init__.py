"""Traitmere: boxes of kinds with shared rooms."""

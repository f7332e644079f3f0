"""Iceopened: ships led through channels that freeze again."""

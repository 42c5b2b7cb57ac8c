"""Bestcalls: whole books of rules free of quarrels, and their answers pressed small."""

"""Tombkeeper: deleted for good, and no mark kept too long."""

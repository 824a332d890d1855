"""Loopstore: queues kept in loops that never stand still."""

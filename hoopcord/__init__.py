"""Hoopcord: shapes of a cord whose hoops never cross."""

"""Seldomseen: what the marks of seldom looked at pages surely tell."""

"""Flagfree: words that are never sent, at the least price whatever the contents."""

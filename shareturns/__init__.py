"""The last turns of a game of shares."""

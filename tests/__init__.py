"""The tests of watchtree."""

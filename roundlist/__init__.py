"""Roundlist: who plays whom in which round."""

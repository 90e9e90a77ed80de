"""Stokehold: rooms kept warm for ever, or not."""

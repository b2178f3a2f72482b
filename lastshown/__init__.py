"""Prices that a cart keeps from an earlier moment."""

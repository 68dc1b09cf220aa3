"""Steadycover: covers and trees of gates that do not flicker."""

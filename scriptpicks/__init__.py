"""Scriptpicks: which rows the steps of a script reach when the goal is edited."""

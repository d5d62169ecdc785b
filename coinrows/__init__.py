"""Coins turned over in rows and on boards, and the numbers that tell who takes the last turn."""

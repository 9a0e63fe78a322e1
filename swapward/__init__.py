"""Swaps between couples of givers and takers, with papers that no plan is better."""

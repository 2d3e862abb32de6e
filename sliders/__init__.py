"""Linked sliders: shares that always add up to one hundred per cent."""

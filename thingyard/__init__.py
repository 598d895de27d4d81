"""Thingyard: a maker of things from things."""

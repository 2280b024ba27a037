"""Liarslate: written programs of several hands, run among liars all the same."""

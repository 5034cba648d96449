"""Stepposts: who moves up, told by words that go round within words."""

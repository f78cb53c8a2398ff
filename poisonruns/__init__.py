"""Poisonruns: reasons about tests that poison other tests."""
